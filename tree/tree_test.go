package tree_test

import (
	"bytes"
	"cmp"
	"math"
	"math/rand/v2"
	"slices"
	"strconv"
	"testing"
	"time"
	"unsafe"

	"stoa/api"
	"stoa/tree"
)

func span(id int, first, last string) api.Bounds {
	return api.Bounds{Id: id, Min: []byte(first), Max: []byte(last)}
}

// plain is spans in the order in which they were given; whatever it is asked, it goes through all of them.
type plain []api.Bounds

// plainNew is nil beside an error.
func plainNew(bs []api.Bounds) (plain, api.Errno) {
	x := plain{}
	for _, b := range bs {
		if string(b.Max) < string(b.Min) {
			return nil, api.ErrArg
		}
		for _, other := range x {
			if other.Id == b.Id {
				return nil, api.ErrOrder
			}
		}
		x = append(x, b)
	}
	return x, api.OK
}

func (x plain) with(b api.Bounds) (plain, api.Errno) {
	return plainNew(append(slices.Clone(x), b))
}

func (x plain) without(id int) plain {
	return slices.DeleteFunc(slices.Clone(x), func(b api.Bounds) bool { return b.Id == id })
}

func (x plain) those(wanted func(first, last string) bool) []int {
	var ids []int
	for _, b := range x {
		if wanted(string(b.Min), string(b.Max)) {
			ids = append(ids, b.Id)
		}
	}
	slices.Sort(ids)
	return ids
}

func (x plain) stab(key string) []int {
	return x.those(func(first, last string) bool { return first <= key && key <= last })
}

func (x plain) within(low, high string) []int {
	if high != "" && high <= low {
		return nil
	}
	return x.those(func(first, last string) bool { return !(last < low) && (high == "" || first < high) })
}

func (x plain) all() []api.Bounds {
	return slices.SortedFunc(slices.Values(x), func(a, b api.Bounds) int {
		if string(a.Min) != string(b.Min) {
			return cmp.Compare(string(a.Min), string(b.Min))
		}
		return cmp.Compare(a.Id, b.Id)
	})
}

// depth asks at both ends of all spans.
func (x plain) depth() int {
	most := 0
	for _, b := range x {
		most = max(most, len(x.stab(string(b.Min))), len(x.stab(string(b.Max))))
	}
	return most
}

func sameSpan(a, b api.Bounds) bool {
	return a.Id == b.Id && bytes.Equal(a.Min, b.Min) && bytes.Equal(a.Max, b.Max)
}

func sameSpans(a, b []api.Bounds) bool {
	return slices.EqualFunc(a, b, sameSpan)
}

// asked are keys of which some are a beginning of others.
var asked = []string{"", "\x00", "a", "a\x00", "aa", "ab", "b", "b\x00", "ba", "c", "\xff", "\xff\xff"}

// same holds all that a tree tells against the plain one.
func same(t *testing.T, x *tree.Tree, p plain, keys []string) {
	t.Helper()
	if x == nil {
		t.Fatalf("no tree of %v", p)
	}
	if x.Len() != len(p) || x.Depth() != p.depth() {
		t.Fatalf("%v: Len %d, Depth %d; want %d, %d", p, x.Len(), x.Depth(), len(p), p.depth())
	}
	if got := x.All(); !sameSpans(got, p.all()) || len(p) == 0 && got != nil {
		t.Fatalf("All = %v; want %v", got, p.all())
	}
	for _, low := range keys {
		if got, want := x.Stab([]byte(low)), p.stab(low); !slices.Equal(got, want) || len(want) == 0 && got != nil {
			t.Fatalf("%v: Stab(%q) = %v; want %v", p, low, got, want)
		}
		for _, high := range keys {
			if got, want := x.Range([]byte(low), []byte(high)), p.within(low, high); !slices.Equal(got, want) || len(want) == 0 && got != nil {
				t.Fatalf("%v: Range(%q, %q) = %v; want %v", p, low, high, got, want)
			}
		}
	}
	if got, want := x.Stab(nil), p.stab(""); !slices.Equal(got, want) {
		t.Fatalf("%v: Stab(nil) = %v; want %v", p, got, want)
	}
	if got, want := x.Range(nil, nil), p.within("", ""); !slices.Equal(got, want) {
		t.Fatalf("%v: Range(nil, nil) = %v; want %v", p, got, want)
	}
}

// wantNew holds New against the plain one; beside an error there is no tree.
func wantNew(t *testing.T, bs ...api.Bounds) (*tree.Tree, plain) {
	t.Helper()
	p, want := plainNew(bs)
	x, e := tree.New(bs...)
	if e != want || (x == nil) != (want != api.OK) {
		t.Fatalf("New(%v) = %v, %d; want %d", bs, x, e, want)
	}
	return x, p
}

func TestExamples(t *testing.T) {
	x, e := tree.New(span(1, "a", "c"), span(2, "b", "d"), span(3, "e", "e"))
	if e != api.OK || x.Len() != 3 || x.Depth() != 2 {
		t.Fatalf("New = %d", e)
	}
	for _, y := range []struct{ got, want []int }{
		{x.Stab([]byte("b")), []int{1, 2}},
		{x.Stab([]byte("e")), []int{3}},
		{x.Range([]byte("c"), []byte("e")), []int{1, 2}},
		{x.Range([]byte("d"), nil), []int{2, 3}},
		{x.Without(2).Stab([]byte("d")), nil},
	} {
		if !slices.Equal(y.got, y.want) {
			t.Errorf("it tells %v; want %v", y.got, y.want)
		}
	}
}

// P22.1: each error, span by span, and which is named first.
func TestErrors(t *testing.T) {
	right, wrong, twice := span(1, "a", "b"), span(2, "b", "a"), span(1, "c", "d")
	both := span(1, "b", "a")
	for i, y := range []struct {
		bs []api.Bounds
		e  api.Errno
	}{
		{nil, api.OK},
		{[]api.Bounds{right}, api.OK},
		{[]api.Bounds{wrong}, api.ErrArg},
		{[]api.Bounds{right, twice}, api.ErrOrder},
		{[]api.Bounds{right, right}, api.ErrOrder},
		{[]api.Bounds{right, both}, api.ErrArg},
		{[]api.Bounds{right, twice, wrong}, api.ErrOrder},
		{[]api.Bounds{right, wrong, twice}, api.ErrArg},
		{[]api.Bounds{right, span(2, "b", "c"), span(3, "", ""), twice}, api.ErrOrder},
		{[]api.Bounds{span(2, "x", "x"), span(1, "x", "x")}, api.OK},
		{[]api.Bounds{span(0, "", "")}, api.OK},
		{[]api.Bounds{span(0, "a", "")}, api.ErrArg},
		{[]api.Bounds{span(0, "aa", "a")}, api.ErrArg},
		{[]api.Bounds{span(0, "a", "aa")}, api.OK},
		{[]api.Bounds{span(math.MinInt, "a", "a"), span(math.MaxInt, "a", "a"), span(-1, "a", "a"), span(0, "a", "a"), span(1<<32, "a", "a")}, api.OK},
		{[]api.Bounds{span(math.MinInt, "a", "a"), span(math.MinInt, "b", "b")}, api.ErrOrder},
	} {
		x, e := tree.New(y.bs...)
		if e != y.e || (x == nil) != (e != api.OK) {
			t.Errorf("%d: New = %v, %d; want %d", i, x, e, y.e)
		}
		if e == api.OK {
			_, p := wantNew(t, y.bs...)
			same(t, x, p, asked)
		}
		if len(y.bs) == 0 {
			continue
		}
		// The last one besides the others.
		ahead, e := tree.New(y.bs[:len(y.bs)-1]...)
		if e != api.OK {
			continue
		}
		x, e = ahead.With(y.bs[len(y.bs)-1])
		if e != y.e || (x == nil) != (e != api.OK) {
			t.Errorf("%d: With = %v, %d; want %d", i, x, e, y.e)
		}
	}
}

// P22.1, P22.2: all trees of up to three spans between few ends, right or not.
func TestAllSmall(t *testing.T) {
	ends := []string{"", "a", "aa", "b"}
	var all []api.Bounds
	for _, first := range ends {
		for _, last := range ends {
			all = append(all, span(0, first, last))
		}
	}
	try := func(ids []int, bs ...api.Bounds) {
		bs = slices.Clone(bs)
		for i := range bs {
			bs[i].Id = ids[i]
		}
		if x, p := wantNew(t, bs...); x != nil {
			same(t, x, p, []string{"", "\x00", "a", "a\x00", "aa", "b", "c"})
		}
	}
	try(nil)
	for _, a := range all {
		try([]int{5}, a)
		for _, b := range all {
			try([]int{2, 1}, a, b)
			try([]int{1, 1}, a, b)
			for _, c := range all {
				for _, ids := range [][]int{{1, 2, 3}, {3, 2, 1}, {2, 1, 2}} {
					try(ids, a, b, c)
				}
			}
		}
	}
}

func keyOf(rnd *rand.Rand, letters int) string {
	b := make([]byte, rnd.IntN(4))
	for i := range b {
		b[i] = byte(rnd.IntN(letters))
	}
	return string(b)
}

func spanOf(rnd *rand.Rand, id, letters int) api.Bounds {
	first, last := keyOf(rnd, letters), keyOf(rnd, letters)
	if first > last {
		first, last = last, first
	}
	return span(id, first, last)
}

// P22.1 to P22.3: spans are put in and taken out; each tree that there was stays as it was.
func TestWithAndWithout(t *testing.T) {
	rnd := rand.New(rand.NewPCG(22, 1))
	type both struct {
		x *tree.Tree
		p plain
	}
	for range 60 {
		letters := 1 + rnd.IntN(5)
		x, p := wantNew(t)
		trees := []both{{x, p}}
		var keys []string
		for range 12 {
			keys = append(keys, keyOf(rnd, letters+1))
		}
		for range 30 {
			from := trees[max(0, len(trees)-1-rnd.IntN(3))]
			b := spanOf(rnd, rnd.IntN(20), letters)
			if rnd.IntN(10) == 0 {
				b.Min, b.Max = b.Max, b.Min
			}
			if rnd.IntN(4) == 0 {
				trees = append(trees, both{from.x.Without(b.Id), from.p.without(b.Id)})
				continue
			}
			p, want := from.p.with(b)
			x, e := from.x.With(b)
			if e != want || (x == nil) != (e != api.OK) {
				t.Fatalf("%v: With(%v) = %v, %d; want %d", from.p, b, x, e, want)
			}
			if e == api.OK {
				trees = append(trees, both{x, p})
			}
		}
		for _, y := range trees {
			same(t, y.x, y.p, keys)
			again, q := wantNew(t, y.p...)
			same(t, again, q, keys[:2])
		}
	}
}

// P22.2: Range tells what Stab tells of any key of the range.
func TestRangeHasAllStabs(t *testing.T) {
	rnd := rand.New(rand.NewPCG(22, 2))
	for range 300 {
		var bs []api.Bounds
		for id := range rnd.IntN(12) {
			bs = append(bs, spanOf(rnd, id*7%12, 3))
		}
		x, p := wantNew(t, bs...)
		for range 20 {
			low, high, key := keyOf(rnd, 4), keyOf(rnd, 4), keyOf(rnd, 4)
			in := x.Range([]byte(low), []byte(high))
			if key < low || high != "" && key >= high {
				continue
			}
			for _, id := range x.Stab([]byte(key)) {
				if !slices.Contains(in, id) {
					t.Fatalf("%v: Range(%q, %q) = %v; want %d, in which %q lies", p, low, high, in, id, key)
				}
			}
		}
	}
}

// P22.1: the depth where spans meet at one key, or don't.
func TestDepth(t *testing.T) {
	for i, y := range []struct {
		bs   []api.Bounds
		want int
	}{
		{nil, 0},
		{[]api.Bounds{span(1, "", "")}, 1},
		{[]api.Bounds{span(1, "a", "b"), span(2, "b", "c")}, 2},
		{[]api.Bounds{span(1, "a", "b"), span(2, "b\x00", "c")}, 1},
		{[]api.Bounds{span(1, "a", "b"), span(2, "b", "b"), span(3, "b", "c")}, 3},
		{[]api.Bounds{span(1, "a", "a"), span(2, "b", "b"), span(3, "c", "c")}, 1},
		{[]api.Bounds{span(1, "a", "z"), span(2, "b", "c"), span(3, "d", "e"), span(4, "f", "g")}, 2},
		{[]api.Bounds{span(1, "a", "b"), span(2, "a", "c"), span(3, "a", "d"), span(4, "d", "g")}, 3},
		{[]api.Bounds{span(4, "d", "g"), span(3, "c", "g"), span(2, "b", "g"), span(1, "a", "g")}, 4},
	} {
		x, p := wantNew(t, y.bs...)
		if x.Depth() != y.want || p.depth() != y.want {
			t.Errorf("%d: Depth = %d; want %d", i, x.Depth(), y.want)
		}
	}
}

// area is the memory of a list, its spare room too. By the pointer it stays in use.
type area struct {
	from unsafe.Pointer
	size uintptr
}

func (a area) begin() uintptr { return uintptr(a.from) }

func areaOf[T any](list []T) area {
	if cap(list) == 0 {
		return area{}
	}
	return area{unsafe.Pointer(unsafe.SliceData(list)), uintptr(cap(list)) * unsafe.Sizeof(list[:1][0])}
}

func areasOf(bs []api.Bounds) []area {
	all := []area{areaOf(bs)}
	for _, b := range bs {
		all = append(all, areaOf(b.Min), areaOf(b.Max))
	}
	return all
}

func wantApart(t *testing.T, all []area) {
	t.Helper()
	all = slices.DeleteFunc(all, func(a area) bool { return a == area{} })
	slices.SortFunc(all, func(a, b area) int { return cmp.Compare(a.begin(), b.begin()) })
	for i := range all {
		if i > 0 && all[i].begin() < all[i-1].begin()+all[i-1].size {
			t.Fatal("two lists share memory")
		}
	}
}

func roomy(b []byte) []byte {
	return append(make([]byte, 0, len(b)+3), b...)
}

func copySpans(bs []api.Bounds) []api.Bounds {
	all := make([]api.Bounds, 0, len(bs)+2)
	for _, b := range bs {
		all = append(all, api.Bounds{Id: b.Id, Min: roomy(b.Min), Max: roomy(b.Max)})
	}
	return all
}

func spoil[T any](list []T, v T) {
	list = list[:cap(list)]
	for i := range list {
		list[i] = v
	}
}

func spoilSpans(bs []api.Bounds) {
	for _, b := range bs {
		spoil(b.Min, '~')
		spoil(b.Max, '~')
	}
	spoil(bs, span(-77, "~", "~"))
}

// spoilAnswers asks a tree for all that it tells, and writes over it.
func spoilAnswers(x *tree.Tree) {
	spoilSpans(x.All())
	for _, key := range asked {
		spoil(x.Stab([]byte(key)), -77)
		spoil(x.Range([]byte(key), nil), -77)
	}
}

// P22.4: what is handed in stays, and may be written over behind the call, as may what is told.
func TestMemory(t *testing.T) {
	rnd := rand.New(rand.NewPCG(22, 3))
	for range 200 {
		var bs []api.Bounds
		for id := range rnd.IntN(9) {
			bs = append(bs, spanOf(rnd, id*5%9, 4))
		}
		more := spanOf(rnd, 100, 4)
		given := copySpans(append(slices.Clone(bs), more))
		x, e := tree.New(given[:len(bs):len(bs)]...)
		if e != api.OK {
			t.Fatalf("New = %d", e)
		}
		y, e := x.With(given[len(bs)])
		if e != api.OK {
			t.Fatalf("With = %d", e)
		}
		if !sameSpans(given, append(slices.Clone(bs), more)) || !sameSpan(given[:cap(given)][len(bs)+1], api.Bounds{}) {
			t.Fatalf("%v is changed to %v", bs, given)
		}
		z := y.Without(0)
		low, high := roomy([]byte("a")), roomy([]byte("b"))
		all := append(areasOf(given), areaOf(low), areaOf(high))
		for _, w := range []*tree.Tree{x, y, z} {
			all = append(append(all, areasOf(w.All())...), areasOf(w.All())...)
			all = append(all, areaOf(w.Stab(low)), areaOf(w.Stab(low)), areaOf(w.Range(low, high)), areaOf(w.Range(low, high)))
		}
		wantApart(t, all)
		if string(low[:cap(low)]) != "a\x00\x00\x00" || string(high[:cap(high)]) != "b\x00\x00\x00" {
			t.Fatalf("the bounds are changed to %q, %q", low[:cap(low)], high[:cap(high)])
		}
		spoilSpans(given)
		p, _ := plainNew(bs)
		q, _ := p.with(more)
		for _, w := range []*tree.Tree{x, y, z} {
			spoilAnswers(w)
		}
		same(t, x, p, asked)
		same(t, y, q, asked)
		same(t, z, q.without(0), asked)
	}
}

// P22.3: trees of one tree, made by With and Without, aren't seen by one another.
func TestBranches(t *testing.T) {
	x, p := wantNew(t, span(5, "b", "c"))
	for i := range 20 {
		a, e := x.With(span(10+i, "a", "d"))
		b, f := x.With(span(40+i, "c", "e"))
		if e != api.OK || f != api.OK {
			t.Fatalf("With = %d, %d", e, f)
		}
		q, _ := p.with(span(10+i, "a", "d"))
		r, _ := p.with(span(40+i, "c", "e"))
		c, d := a.Without(5), a.Without(10+i)
		same(t, a, q, asked)
		same(t, b, r, asked)
		same(t, c, q.without(5), asked)
		same(t, d, p, asked)
		same(t, a.Without(-1), q, asked)
		same(t, x, p, asked)
		x, p = a, q
		if i%2 == 0 {
			x, p = b, r
		}
	}
}

// TestMany has many spans: to ask for a few of them nobody goes through all.
func TestMany(t *testing.T) {
	begin := time.Now()
	var bs []api.Bounds
	name := func(i int) string { return strconv.Itoa(1000000 + i) }
	const many = 50000
	for i := range many {
		bs = append(bs, span(i, name(2*i), name(2*i+1)))
	}
	rnd := rand.New(rand.NewPCG(22, 4))
	rnd.Shuffle(many, func(i, j int) { bs[i], bs[j] = bs[j], bs[i] })
	x, e := tree.New(bs...)
	if e != api.OK || x.Depth() != 1 {
		t.Fatalf("New = %d", e)
	}
	for i := range 2 * many {
		if got := x.Stab([]byte(name(i))); len(got) != 1 || got[0] != i/2 {
			t.Fatalf("Stab(%s) = %v", name(i), got)
		}
		if got := x.Range([]byte(name(i)), []byte(name(i+1))); len(got) != 1 || got[0] != i/2 {
			t.Fatalf("Range from %s on = %v", name(i), got)
		}
	}
	// Of all these spans one alone ends behind such a key: the others' ends aren't looked at one by one.
	for i := range 8 * many {
		key := 2*many - 1 - i%1000
		if got := x.Stab([]byte(name(key))); len(got) != 1 || got[0] != key/2 {
			t.Fatalf("Stab(%s) = %v", name(key), got)
		}
	}
	for i := range 100 {
		if x, e = x.With(span(many+i, "1", "2")); e != api.OK {
			t.Fatalf("With = %d", e)
		}
	}
	if x.Depth() != 101 || len(x.Stab([]byte(name(5)))) != 101 {
		t.Errorf("Depth = %d", x.Depth())
	}
	for i := range 100 {
		x = x.Without(many + i)
	}
	if x.Depth() != 1 || x.Len() != many {
		t.Errorf("Depth %d, Len %d", x.Depth(), x.Len())
	}
	if spent := time.Since(begin); spent > time.Minute {
		t.Errorf("it took %v", spent)
	}
}
