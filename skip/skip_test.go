package skip_test

import (
	"bytes"
	"iter"
	"maps"
	"math"
	"math/rand/v2"
	"slices"
	"strconv"
	"testing"
	"time"
	"unsafe"

	"stoa/skip"
)

// plain is a list as the chapter tells it: a map whose keys are sorted when they are asked for.
type plain struct {
	values  map[string]int
	heights []int
	taken   []int // the heights of all towers, as they were taken
}

func newPlain(heights ...int) *plain {
	if len(heights) == 0 {
		heights = []int{1}
	}
	return &plain{values: map[string]int{}, heights: slices.Clone(heights)}
}

func (p *plain) put(key string, value int) bool {
	_, there := p.values[key]
	p.values[key] = value
	if there {
		return false
	}
	height := p.heights[len(p.taken)%len(p.heights)]
	switch {
	case height < 1:
		height = 1
	case height > 12:
		height = 12
	}
	p.taken = append(p.taken, height)
	return true
}

func (p *plain) height() int {
	if len(p.taken) == 0 {
		return 0
	}
	return slices.Max(p.taken)
}

// pair is a key with its value.
type pair struct {
	key   string
	value int
}

// from are the keys from low on, in order.
func (p *plain) from(low string) []pair {
	var pairs []pair
	for _, key := range slices.Sorted(maps.Keys(p.values)) {
		if key >= low {
			pairs = append(pairs, pair{key, p.values[key]})
		}
	}
	return pairs
}

// between are the keys from low on and ahead of high.
func (p *plain) between(low, high string) []pair {
	pairs := p.from(low)
	if high == "" {
		return pairs
	}
	return slices.DeleteFunc(pairs, func(x pair) bool { return x.key >= high })
}

// rangeOf is what Range tells, as pairs.
func rangeOf(t *testing.T, l *skip.List, low, high string) []pair {
	t.Helper()
	keys, values := l.Range([]byte(low), []byte(high))
	if len(keys) != len(values) {
		t.Fatalf("Range(%q, %q): %d keys, %d values", low, high, len(keys), len(values))
	}
	var pairs []pair
	for i, key := range keys {
		pairs = append(pairs, pair{string(key), values[i]})
	}
	return pairs
}

// gone are the first pairs, n at most, that are gone through.
func gone(each iter.Seq2[[]byte, int], n int) []pair {
	var pairs []pair
	if n == 0 {
		return nil
	}
	for key, value := range each {
		pairs = append(pairs, pair{string(key), value})
		if len(pairs) == n {
			break
		}
	}
	return pairs
}

// sameAt holds what is asked at one key against the plain list.
func sameAt(t *testing.T, l *skip.List, p *plain, key string) {
	t.Helper()
	want, wantOk := p.values[key]
	if got, ok := l.Get([]byte(key)); got != want || ok != wantOk {
		t.Fatalf("%v: Get(%q) is %d, %v, not %d, %v", p.values, key, got, ok, want, wantOk)
	}
	var first pair
	all := p.from(key)
	if len(all) > 0 {
		first = all[0]
	}
	if got, value, ok := l.Seek([]byte(key)); string(got) != first.key || value != first.value || ok != (len(all) > 0) {
		t.Fatalf("%v: Seek(%q) is %q, %d, %v, not %v", p.values, key, got, value, ok, first)
	}
	if got := gone(l.Each([]byte(key)), math.MaxInt); !slices.Equal(got, all) {
		t.Fatalf("%v: Each(%q) tells %v, not %v", p.values, key, got, all)
	}
}

// same holds all that a list tells, asked at these keys, against the plain one.
func same(t *testing.T, l *skip.List, p *plain, asked []string) {
	t.Helper()
	if l.Len() != len(p.values) || l.Height() != p.height() {
		t.Fatalf("%v: Len %d, Height %d, not %d", p.values, l.Len(), l.Height(), p.height())
	}
	for _, key := range asked {
		sameAt(t, l, p, key)
		for _, high := range asked {
			if got, want := rangeOf(t, l, key, high), p.between(key, high); !slices.Equal(got, want) {
				t.Fatalf("%v: Range(%q, %q) is %v, not %v", p.values, key, high, got, want)
			}
		}
	}
}

// put puts a key into both lists.
func put(t *testing.T, l *skip.List, p *plain, key string, value int) {
	t.Helper()
	want := p.put(key, value)
	if got := l.Put([]byte(key), value); got != want {
		t.Fatalf("%v: Put(%q, %d) is %v", p.values, key, value, got)
	}
}

func TestExamples(t *testing.T) {
	l := skip.New(1, 3)
	if !l.Put([]byte("b"), 1) || !l.Put([]byte("a"), 2) || l.Put([]byte("b"), 5) {
		t.Error("Put")
	}
	if value, ok := l.Get([]byte("b")); value != 5 || !ok {
		t.Errorf("Get is %d, %v", value, ok)
	}
	if key, value, ok := l.Seek([]byte("aa")); string(key) != "b" || value != 5 || !ok {
		t.Errorf("Seek is %q, %d, %v", key, value, ok)
	}
	if got := rangeOf(t, l, "", "b"); !slices.Equal(got, []pair{{"a", 2}}) {
		t.Errorf("Range is %v", got)
	}
	if l.Height() != 3 || l.Len() != 2 {
		t.Errorf("Height %d, Len %d", l.Height(), l.Len())
	}
}

func TestNew(t *testing.T) {
	for _, heights := range [][]int{nil, {}, {1}, {12}, {3, 5}} {
		l := skip.New(heights...)
		same(t, l, newPlain(heights...), []string{"", "\x00", "a", "\xff\xff"})
		if keys, values := l.Range(nil, nil); len(keys) != 0 || len(values) != 0 {
			t.Errorf("without keys Range is %v, %v", keys, values)
		}
		if key, value, ok := l.Seek(nil); key != nil || value != 0 || ok {
			t.Errorf("without keys Seek is %v, %d, %v", key, value, ok)
		}
	}
}

// TestHeights looks at Height behind each key: each new one takes the next height, and no other.
func TestHeights(t *testing.T) {
	for _, heights := range [][]int{
		nil, {1}, {2}, {11}, {12}, {13}, {0}, {-1}, {math.MinInt}, {math.MaxInt},
		{1, 3}, {3, 1}, {1, 1, 1, 5}, {0, -5, 2, 100, 4}, {1, 2, 3, 4, 5, 6, 7, 8, 9, 10, 11, 12, 13}, {13, 1}, {12, 11},
	} {
		l, p := skip.New(heights...), newPlain(heights...)
		for i := range 30 {
			key := strconv.Itoa(i * 7 % 30)
			put(t, l, p, key, i)
			put(t, l, p, key, -i)
			put(t, l, p, "0", 1000+i)
			same(t, l, p, []string{"", "0", key})
		}
	}
	l := skip.New(1, 1, 1, 5)
	for i, want := range []int{1, 1, 1, 5, 5} {
		l.Put([]byte{byte(i)}, i)
		l.Put([]byte{byte(i)}, i)
		if l.Height() != want {
			t.Errorf("Height behind %d keys is %d, not %d", i+1, l.Height(), want)
		}
	}
}

// letters are keys that are all orders' of one another: none, the least and the greatest bytes, and beginnings.
var letters = []string{"", "\x00", "\x00\x00", "a", "a\x00", "ab", "b", "\xff", "\xff\xff"}

// asked are keys at, between and around the letters.
var asked = []string{"", "\x00", "\x00\x00", "\x00\x00\x00", "\x00a", "A", "a", "a\x00", "a\x00\x00", "aa", "ab", "abc", "b", "c", "\x80", "\xfe\xff", "\xff", "\xff\x00", "\xff\xff", "\xff\xff\xff"}

func TestAllOrders(t *testing.T) {
	for _, heights := range [][]int{nil, {2, 1, 3}, {12, 1}} {
		var keys []string
		var try func(left int)
		try = func(left int) {
			if left == 0 {
				l, p := skip.New(heights...), newPlain(heights...)
				for i, key := range keys {
					put(t, l, p, key, i+1)
				}
				same(t, l, p, asked)
				return
			}
			for _, key := range letters {
				keys = append(keys, key)
				try(left - 1)
				keys = keys[:len(keys)-1]
			}
		}
		try(3)
	}
}

// TestEveryState looks at the list behind each Put.
func TestEveryState(t *testing.T) {
	random := rand.New(rand.NewPCG(18, 1))
	for range 60 {
		heights := anyHeights(random)
		l, p := skip.New(heights...), newPlain(heights...)
		for i := range 15 {
			put(t, l, p, letters[random.IntN(len(letters))], i)
			same(t, l, p, asked)
		}
	}
}

func anyHeights(random *rand.Rand) []int {
	heights := make([]int, random.IntN(9))
	for i := range heights {
		heights[i] = random.IntN(16) - 2
	}
	return heights
}

func anyKey(random *rand.Rand, most int) string {
	key := make([]byte, random.IntN(most+1))
	for i := range key {
		key[i] = "\x00a\x7f\x80\xff"[random.IntN(5)]
	}
	return string(key)
}

func TestAnyOrder(t *testing.T) {
	random := rand.New(rand.NewPCG(18, 2))
	for range 60 {
		heights := anyHeights(random)
		l, p := skip.New(heights...), newPlain(heights...)
		for range 200 {
			put(t, l, p, anyKey(random, 4), random.Int())
		}
		for range 40 {
			same(t, l, p, []string{anyKey(random, 5), anyKey(random, 3)})
		}
	}
}

func TestFarValues(t *testing.T) {
	l, p := skip.New(), newPlain()
	for i, value := range []int{0, -1, 1, math.MinInt, math.MaxInt} {
		put(t, l, p, strconv.Itoa(i), value)
		put(t, l, p, "x", value)
		same(t, l, p, []string{"", strconv.Itoa(i), "x"})
	}
	// A value of 0 is there, and a key without bytes is one.
	put(t, l, p, "x", 0)
	put(t, l, p, "", 0)
	same(t, l, p, []string{"", "x"})
	if value, ok := l.Get(nil); value != 0 || !ok {
		t.Errorf("Get of no bytes is %d, %v", value, ok)
	}
	if key, value, ok := l.Seek(nil); len(key) != 0 || value != 0 || !ok {
		t.Errorf("Seek of no bytes is %q, %d, %v", key, value, ok)
	}
}

func TestLongKeys(t *testing.T) {
	long := string(bytes.Repeat([]byte{'k'}, 1<<20))
	l, p := skip.New(2, 1), newPlain(2, 1)
	for i, key := range []string{long, long[:1<<20-1], long + "\x00", "k", long} {
		put(t, l, p, key, i)
	}
	if l.Len() != 4 || l.Height() != 2 {
		t.Errorf("Len %d, Height %d", l.Len(), l.Height())
	}
	for _, key := range []string{long, long[:1<<20-1], long[:1<<20-2], long + "\x00", long + "\x01"} {
		want, wantOk := p.values[key]
		if value, ok := l.Get([]byte(key)); value != want || ok != wantOk {
			t.Errorf("Get of %d bytes is %d, %v", len(key), value, ok)
		}
		if got, want := rangeOf(t, l, key, long), p.between(key, long); !slices.Equal(got, want) {
			t.Errorf("Range from %d bytes on: %d keys, not %d", len(key), len(got), len(want))
		}
	}
}

// TestHeightsChangeNothing puts the same keys in other orders into lists of other heights.
func TestHeightsChangeNothing(t *testing.T) {
	random := rand.New(rand.NewPCG(18, 3))
	for range 30 {
		values := map[string]int{}
		for range 60 {
			values[anyKey(random, 3)] = random.IntN(1000)
		}
		first := skip.New()
		for _, key := range slices.Sorted(maps.Keys(values)) {
			first.Put([]byte(key), values[key])
		}
		for range 6 {
			other := skip.New(anyHeights(random)...)
			keys := slices.Sorted(maps.Keys(values))
			random.Shuffle(len(keys), func(i, j int) { keys[i], keys[j] = keys[j], keys[i] })
			for _, key := range keys {
				other.Put([]byte(key), values[key])
			}
			tellAlike(t, first, other, keys)
		}
	}
}

// tellAlike holds all that two lists tell, but for Height, against one another.
func tellAlike(t *testing.T, a, b *skip.List, keys []string) {
	t.Helper()
	if a.Len() != b.Len() {
		t.Fatalf("Len %d and %d", a.Len(), b.Len())
	}
	for i, key := range keys {
		low, high := []byte(key+"\x01"), []byte(keys[(i+1)%len(keys)])
		x, okX := a.Get(low)
		y, okY := b.Get(low)
		if x != y || okX != okY {
			t.Fatalf("Get(%q) is %d and %d", low, x, y)
		}
		keyX, x, okX := a.Seek(low)
		keyY, y, okY := b.Seek(low)
		if !bytes.Equal(keyX, keyY) || x != y || okX != okY {
			t.Fatalf("Seek(%q) is %q and %q", low, keyX, keyY)
		}
		if x, y := rangeOf(t, a, key, string(high)), rangeOf(t, b, key, string(high)); !slices.Equal(x, y) {
			t.Fatalf("Range(%q, %q) is %v and %v", key, high, x, y)
		}
		if x, y := gone(a.Each(low), i), gone(b.Each(low), i); !slices.Equal(x, y) {
			t.Fatalf("Each(%q) tells %v and %v", low, x, y)
		}
	}
}

// TestEachIsLeft leaves behind every number of keys: nothing more is told, and the list is as it was.
func TestEachIsLeft(t *testing.T) {
	l, p := skip.New(1, 4, 2), newPlain(1, 4, 2)
	for i, key := range letters {
		put(t, l, p, key, i)
	}
	for _, low := range asked {
		all := p.from(low)
		each := l.Each([]byte(low))
		for n := range len(all) + 2 {
			if got, want := gone(each, n), all[:min(n, len(all))]; !slices.Equal(got, want) {
				t.Fatalf("%d from %q on are %v, not %v", n, low, got, want)
			}
		}
		calls := 0
		each(func([]byte, int) bool {
			calls++
			return false
		})
		if calls != min(1, len(all)) {
			t.Fatalf("from %q on %d are told behind false", low, calls)
		}
	}
	same(t, l, p, asked)
}

// TestEachAgain goes through one iterator several times, within itself, too, and asks for other things meanwhile.
func TestEachAgain(t *testing.T) {
	l, p := skip.New(3, 1), newPlain(3, 1)
	for i, key := range letters {
		put(t, l, p, key, i)
	}
	each := l.Each([]byte("a"))
	want := p.from("a")
	for range 2 {
		n := 0
		for key, value := range each {
			if string(key) != want[n].key || value != want[n].value {
				t.Fatalf("%d is %q, %d, not %v", n, key, value, want[n])
			}
			if got := gone(each, math.MaxInt); !slices.Equal(got, want) {
				t.Fatalf("within, %v is told, not %v", got, want)
			}
			same(t, l, p, asked)
			n++
		}
		if n != len(want) {
			t.Fatalf("%d keys, not %d", n, len(want))
		}
	}
}

// TestEachTellsTheList: what was put in ahead of the going through is told, whenever the iterator was asked for.
func TestEachTellsTheList(t *testing.T) {
	l, p := skip.New(2, 1, 4), newPlain(2, 1, 4)
	var early []iter.Seq2[[]byte, int]
	for _, low := range asked {
		early = append(early, l.Each([]byte(low)))
	}
	for i, key := range []string{"ab", "\xff\xff", "", "a", "b", "\x00", "ab", "a\x00"} {
		put(t, l, p, key, i)
		for j, low := range asked {
			if got, want := gone(early[j], math.MaxInt), p.from(low); !slices.Equal(got, want) {
				t.Fatalf("from %q on %v is told, not %v", low, got, want)
			}
		}
	}
}

// lent is a key with spare room behind it, both of which have to stay as they are.
func lent(key string) []byte {
	b := append([]byte(key), "spare room"...)
	return b[:len(key)]
}

func isLent(b []byte, key string) bool {
	return string(b) == key && string(b[:cap(b)][:len(key)+10]) == key+"spare room"
}

func spoil(b []byte) {
	b = b[:cap(b)]
	for i := range b {
		b[i] = '~'
	}
}

func TestArguments(t *testing.T) {
	heights := []int{2, 99, -4}
	l, p := skip.New(heights...), newPlain(heights...)
	if !slices.Equal(heights, []int{2, 99, -4}) {
		t.Errorf("the heights are changed: %v", heights)
	}
	heights[0], heights[1], heights[2] = 12, 12, 12
	for i, key := range letters {
		b := lent(key)
		l.Put(b, i)
		p.put(key, i)
		if i%2 == 0 {
			l.Put(b, i)
		}
		if !isLent(b, key) {
			t.Fatalf("Put changes %q", key)
		}
		spoil(b)
		same(t, l, p, asked)
	}
	for _, key := range asked {
		low, high := lent(key), lent("b")
		l.Get(low)
		l.Seek(low)
		l.Range(low, high)
		each := l.Each(low)
		gone(each, 3)
		if !isLent(low, key) || !isLent(high, "b") {
			t.Fatalf("%q or its high is changed", key)
		}
		spoil(low)
		spoil(high)
		if got, want := gone(each, math.MaxInt), p.from(key); !slices.Equal(got, want) {
			t.Fatalf("behind writing over low, Each(%q) tells %v, not %v", key, got, want)
		}
	}
	same(t, l, p, asked)
}

// within tells whether two byte lists share memory, their spare room too.
func within(a, b []byte) bool {
	if cap(a) == 0 || cap(b) == 0 {
		return false
	}
	x, y := uintptr(unsafe.Pointer(unsafe.SliceData(a))), uintptr(unsafe.Pointer(unsafe.SliceData(b)))
	return x < y+uintptr(cap(b)) && y < x+uintptr(cap(a))
}

func TestAnswersAreNew(t *testing.T) {
	l, p := skip.New(1, 2), newPlain(1, 2)
	var all [][]byte
	for i, key := range letters {
		b := []byte(key)
		all = append(all, b)
		l.Put(b, i)
		p.put(key, i)
	}
	for key := range l.Each(nil) {
		all = append(all, key)
	}
	for _, key := range asked {
		b := []byte(key)
		got, _, _ := l.Seek(b)
		keys, _ := l.Range(b, nil)
		again, _ := l.Range(b, nil)
		all = append(append(append(all, b, got), keys...), again...)
	}
	for i := range all {
		for j := range i {
			if within(all[i], all[j]) {
				t.Fatalf("%q and %q share memory", all[i], all[j])
			}
		}
	}
	for _, key := range asked {
		got, _, _ := l.Seek([]byte(key))
		spoil(got)
		keys, values := l.Range([]byte(key), nil)
		for i := range keys {
			spoil(keys[i])
			keys[i] = nil
			values[i] = -77
		}
		same(t, l, p, asked)
	}
}

// TestWrittenOnBehindAKey: who writes on behind a key that Each tells writes into memory of his own.
func TestWrittenOnBehindAKey(t *testing.T) {
	l := skip.New()
	for _, key := range letters {
		l.Put([]byte(key), 1)
	}
	for key := range l.Each(nil) {
		first := append(key, 'x')
		second := append(key, 'y')
		if first[len(key)] != 'x' || second[len(key)] != 'y' {
			t.Fatalf("behind %q both write to one place", key)
		}
	}
}

func TestListsShareNothing(t *testing.T) {
	random := rand.New(rand.NewPCG(18, 4))
	heights := []int{3, 1, 2}
	a, b := skip.New(heights...), skip.New(heights...)
	p, q := newPlain(heights...), newPlain(heights...)
	for i := range 40 {
		put(t, a, p, anyKey(random, 2), i)
		same(t, b, q, letters)
		put(t, b, q, anyKey(random, 2), -i)
		same(t, a, p, letters)
	}
}

// TestAskedAgain: to ask changes nothing.
func TestAskedAgain(t *testing.T) {
	random := rand.New(rand.NewPCG(18, 5))
	l, p := skip.New(2, 1), newPlain(2, 1)
	for i := range 30 {
		put(t, l, p, anyKey(random, 2), i)
		for range 3 {
			same(t, l, p, letters)
		}
	}
}

// ruler are heights of which each is half as often there as the one below.
func ruler() []int {
	heights := make([]int, 1<<11)
	for i := range heights {
		heights[i] = 1
		for n := i + 1; n%2 == 0; n /= 2 {
			heights[i]++
		}
	}
	return heights
}

// TestTowersMakeItFast: the same keys are put in and found in far less time with towers than without.
func TestTowersMakeItFast(t *testing.T) {
	const n = 4000
	spent := func(heights ...int) time.Duration {
		begin := time.Now()
		l := skip.New(heights...)
		for i := range n {
			l.Put([]byte{byte(i >> 8), byte(i)}, i)
		}
		for i := range n {
			l.Get([]byte{byte(i >> 8), byte(i)})
		}
		return time.Since(begin)
	}
	// A machine that does other things may hold one try up, but not all of them.
	for range 10 {
		if spent(ruler()...) < spent(1)/3 {
			return
		}
	}
	t.Error("the towers make nothing faster")
}

// TestMany has so many keys that towers of one level would take minutes.
func TestMany(t *testing.T) {
	const n = 100000
	number := func(i int) []byte { return []byte{byte(i >> 16), byte(i >> 8), byte(i)} }
	l := skip.New(ruler()...)
	for i := range n {
		if !l.Put(number(i*7919%n), i) {
			t.Fatalf("%d is there already", i*7919%n)
		}
	}
	if l.Len() != n || l.Height() != 12 {
		t.Errorf("Len %d, Height %d", l.Len(), l.Height())
	}
	for i := range n {
		if got, ok := l.Get(number(i * 7919 % n)); got != i || !ok {
			t.Fatalf("Get of %d is %d, %v", i*7919%n, got, ok)
		}
	}
	i := 0
	for key := range l.Each(nil) {
		if !bytes.Equal(key, number(i)) {
			t.Fatalf("%d is %v", i, key)
		}
		i++
	}
	if keys, values := l.Range(number(n-5), nil); i != n || len(keys) != 5 || len(values) != 5 {
		t.Errorf("%d keys are told, and %d at the end", i, len(keys))
	}
}
