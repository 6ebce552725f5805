package dict_test

import (
	"bytes"
	"math"
	"math/big"
	"math/rand/v2"
	"slices"
	"testing"

	"stoa/api"
	"stoa/dict"
)

// The helpers beneath say in the plainest way what the chapter says, without the layers below.

// plainPut divides by 128 until nothing is left.
func plainPut(u uint64) []byte {
	var b []byte
	for ; u >= 128; u /= 128 {
		b = append(b, byte(u%128)+128)
	}
	return append(b, byte(u))
}

// plainGet takes a number from the beginning of b, and answers what is left.
func plainGet(b []byte) (uint64, []byte, api.Errno) {
	u := new(big.Int)
	for i, c := range b {
		if i == 9 && c > 1 {
			return 0, nil, api.ErrWide
		}
		u.Add(u, new(big.Int).Lsh(big.NewInt(int64(c%128)), uint(7*i)))
		if c == 0 && i > 0 {
			return 0, nil, api.ErrForm
		}
		if c < 128 {
			return u.Uint64(), b[i+1:], api.OK
		}
	}
	return 0, nil, api.ErrShort
}

// plainAhead: x stands ahead of y, by the first byte that is unlike, or as its beginning.
func plainAhead(x, y []byte) bool {
	for i := range min(len(x), len(y)) {
		if x[i] != y[i] {
			return x[i] < y[i]
		}
	}
	return len(x) < len(y)
}

// plainEntries takes the least text that stands behind the last one until there is none.
func plainEntries(ss [][]byte) [][]byte {
	var entries [][]byte
	for {
		var least []byte
		found := false
		for _, s := range ss {
			if len(entries) > 0 && !plainAhead(entries[len(entries)-1], s) {
				continue
			}
			if !found || plainAhead(s, least) {
				least, found = s, true
			}
		}
		if !found {
			return entries
		}
		entries = append(entries, least)
	}
}

// plainNumbers looks for each text among the entries.
func plainNumbers(entries, ss [][]byte) []int {
	var ns []int
	for _, s := range ss {
		ns = append(ns, slices.IndexFunc(entries, func(x []byte) bool { return bytes.Equal(x, s) }))
	}
	return ns
}

// plainWidth is how many bits the greatest of n numbers from 0 on needs.
func plainWidth(n int) int {
	width := 0
	for power := 1; power < n; power *= 2 {
		width++
	}
	return width
}

// plainPack lays the numbers one behind the other, lowest bit first, eight to a byte.
func plainPack(width int, ns []int) []byte {
	b := make([]byte, (width*len(ns)+7)/8)
	place := 0
	for _, n := range ns {
		for bit := range width {
			b[place/8] |= byte(n>>bit&1) << (place % 8)
			place++
		}
	}
	return b
}

// plainUnpack is the n numbers that all of b writes.
func plainUnpack(b []byte, width, n int) ([]int, api.Errno) {
	need := (width*n + 7) / 8
	if len(b) < need {
		return nil, api.ErrShort
	}
	if len(b) > need {
		return nil, api.ErrTrail
	}
	var bits []int
	for _, c := range b {
		for bit := range 8 {
			bits = append(bits, int(c)>>bit&1)
		}
	}
	if slices.Contains(bits[width*n:], 1) {
		return nil, api.ErrForm
	}
	ns := make([]int, n)
	for i := range ns {
		for bit, v := range bits[width*i : width*(i+1)] {
			ns[i] += v << bit
		}
	}
	return ns, api.OK
}

// written is entries one by one as they are, how many texts there are, and what stands behind that.
func written(entries [][]byte, count uint64, rest ...byte) []byte {
	b := plainPut(uint64(len(entries)))
	for _, s := range entries {
		b = slices.Concat(b, plainPut(uint64(len(s))), s)
	}
	return slices.Concat(b, plainPut(count), rest)
}

func plainEncode(ss [][]byte) []byte {
	entries := plainEntries(ss)
	ns := plainNumbers(entries, ss)
	return written(entries, uint64(len(ss)), plainPack(plainWidth(len(entries)), ns)...)
}

// plainCount takes the number of entries or of texts.
func plainCount(b []byte) (int, []byte, api.Errno) {
	n, b, e := plainGet(b)
	if e == api.OK && n > 4096 {
		return 0, nil, api.ErrLong
	}
	return int(n), b, e
}

func plainDecode(b []byte) ([][]byte, api.Errno) {
	n, b, e := plainCount(b)
	if e != api.OK {
		return nil, e
	}
	var entries [][]byte
	for i := range n {
		var size uint64
		size, b, e = plainGet(b)
		switch {
		case e != api.OK:
			return nil, e
		case size > 200:
			return nil, api.ErrLong
		case uint64(len(b)) < size:
			return nil, api.ErrShort
		case i > 0 && !plainAhead(entries[i-1], b[:size]):
			return nil, api.ErrForm
		}
		entries = append(entries, b[:size])
		b = b[size:]
	}
	count, b, e := plainCount(b)
	if e != api.OK {
		return nil, e
	}
	ns, e := plainUnpack(b, plainWidth(n), count)
	if e != api.OK {
		return nil, e
	}
	for i := range n {
		if !slices.Contains(ns, i) {
			return nil, api.ErrForm
		}
	}
	var ss [][]byte
	for _, k := range ns {
		if k >= n {
			return nil, api.ErrForm
		}
		ss = append(ss, entries[k])
	}
	return ss, api.OK
}

func texts(ss ...string) [][]byte {
	var out [][]byte
	for _, s := range ss {
		out = append(out, []byte(s))
	}
	return out
}

// unlike are n texts in order, no two of them the same.
func unlike(n int) [][]byte {
	var out [][]byte
	for i := range n {
		out = append(out, []byte{byte(i >> 8), byte(i)})
	}
	return out
}

// shuffled is the same texts in another order.
func shuffled(rnd *rand.Rand, ss [][]byte) [][]byte {
	ss = slices.Clone(ss)
	rnd.Shuffle(len(ss), func(i, j int) { ss[i], ss[j] = ss[j], ss[i] })
	return ss
}

// someTexts are n texts out of some, of letters out of few or of all.
func someTexts(rnd *rand.Rand, some, n int) [][]byte {
	stock := make([][]byte, some)
	for i := range stock {
		stock[i] = make([]byte, rnd.IntN(5))
		for k := range stock[i] {
			stock[i][k] = []byte{0x00, 0x61, 0x7f, 0x80, 0xff, byte(rnd.Uint32())}[rnd.IntN(6)]
		}
	}
	ss := make([][]byte, n)
	for i := range ss {
		ss[i] = stock[rnd.IntN(some)]
	}
	return ss
}

func cloned(ss [][]byte) [][]byte {
	ss = slices.Clone(ss)
	for i := range ss {
		ss[i] = bytes.Clone(ss[i])
	}
	return ss
}

func equal(x, y [][]byte) bool {
	return slices.EqualFunc(x, y, bytes.Equal)
}

func wantIndex(t *testing.T, ss, want [][]byte, wantNs []int, wantErr api.Errno) {
	t.Helper()
	entries, ns, e := dict.Index(ss...)
	if !equal(entries, want) || !slices.Equal(ns, wantNs) || e != wantErr {
		t.Errorf("Index(%q) = %q, %v, %d; want %q, %v, %d", ss, entries, ns, e, want, wantNs, wantErr)
	}
}

func wantEncode(t *testing.T, ss [][]byte, want []byte, wantErr api.Errno) {
	t.Helper()
	b, e := dict.Encode(ss...)
	if !bytes.Equal(b, want) || e != wantErr {
		t.Errorf("Encode(%q) = %x, %d; want %x, %d", ss, b, e, want, wantErr)
	}
}

func wantDecode(t *testing.T, b []byte, want [][]byte, wantErr api.Errno) {
	t.Helper()
	ss, e := dict.Decode(b)
	if !equal(ss, want) || e != wantErr {
		t.Errorf("Decode(%x) = %q, %d; want %q, %d", b, ss, e, want, wantErr)
	}
}

func wantWrong(t *testing.T, b []byte, wantErr api.Errno) {
	t.Helper()
	wantDecode(t, b, nil, wantErr)
}

func wantLong(t *testing.T, ss [][]byte) {
	t.Helper()
	wantIndex(t, ss, nil, nil, api.ErrLong)
	wantEncode(t, ss, nil, api.ErrLong)
}

// wantAll holds all three calls for the texts against the plain readings, there and back.
func wantAll(t *testing.T, ss [][]byte) {
	t.Helper()
	entries := plainEntries(ss)
	wantIndex(t, ss, entries, plainNumbers(entries, ss), api.OK)
	b := plainEncode(ss)
	wantEncode(t, ss, b, api.OK)
	wantDecode(t, b, ss, api.OK)
}

// wantOnly holds Decode against the plain reading; what is decoded is written in no other way.
func wantOnly(t *testing.T, b []byte) {
	t.Helper()
	want, wantErr := plainDecode(b)
	wantDecode(t, b, want, wantErr)
	if wantErr == api.OK {
		wantEncode(t, want, b, api.OK)
	}
}

// P10.1: the chapter's examples, and others worked out by hand.
func TestExamples(t *testing.T) {
	for _, x := range []struct {
		ss, entries [][]byte
		ns          []int
		b           []byte
	}{
		{texts("b", "a", "b"), texts("a", "b"), []int{1, 0, 1}, []byte("\x02\x01a\x01b\x03\x05")},
		{texts("a"), texts("a"), []int{0}, []byte("\x01\x01a\x01")},
		{texts("a", "a", "a"), texts("a"), []int{0, 0, 0}, []byte("\x01\x01a\x03")},
		{texts(""), texts(""), []int{0}, []byte("\x01\x00\x01")},
		{texts("a", ""), texts("", "a"), []int{1, 0}, []byte("\x02\x00\x01a\x02\x01")},
		{texts("c", "a", "b"), texts("a", "b", "c"), []int{2, 0, 1}, []byte("\x03\x01a\x01b\x01c\x03\x12")},
		{texts("d", "a", "c", "b", "d"), texts("a", "b", "c", "d"), []int{3, 0, 2, 1, 3}, []byte("\x04\x01a\x01b\x01c\x01d\x05\x63\x03")},
		{texts("ab", "a", "b", "a"), texts("a", "ab", "b"), []int{1, 0, 2, 0}, []byte("\x03\x01a\x02ab\x01b\x04\x21")},
	} {
		wantIndex(t, x.ss, x.entries, x.ns, api.OK)
		wantEncode(t, x.ss, x.b, api.OK)
		wantDecode(t, x.b, x.ss, api.OK)
	}
	wantWrong(t, []byte("\x01\x01a\x00"), api.ErrForm)
}

// P10.1: no texts.
func TestNothing(t *testing.T) {
	for _, ss := range [][][]byte{nil, {}} {
		wantIndex(t, ss, nil, nil, api.OK)
		wantEncode(t, ss, []byte{0x00, 0x00}, api.OK)
	}
	wantDecode(t, []byte{0x00, 0x00}, nil, api.OK)
	wantWrong(t, nil, api.ErrShort)
	wantWrong(t, []byte{}, api.ErrShort)
	wantWrong(t, []byte{0x00}, api.ErrShort)
	for c := range 256 {
		wantWrong(t, []byte{0x00, 0x00, byte(c)}, api.ErrTrail)
	}
}

// P10.1: a text that is nil is an empty one.
func TestNilText(t *testing.T) {
	wantIndex(t, [][]byte{nil, {}, []byte("a"), nil}, texts("", "a"), []int{0, 0, 1, 0}, api.OK)
	wantEncode(t, [][]byte{nil, {}}, []byte("\x01\x00\x02"), api.OK)
}

// P10.1: texts without entries: no number is right.
func TestTextsWithoutEntries(t *testing.T) {
	for _, count := range []uint64{1, 2, 4096} {
		wantWrong(t, written(nil, count), api.ErrForm)
		wantWrong(t, written(nil, count, 0x00), api.ErrTrail)
	}
	wantWrong(t, written(nil, 4097), api.ErrLong)
}

// P10.1: entries without texts.
func TestEntriesWithoutTexts(t *testing.T) {
	for n := 1; n < 300; n++ {
		wantWrong(t, written(unlike(n), 0), api.ErrForm)
		wantWrong(t, written(unlike(n), 0, 0x00), api.ErrTrail)
	}
	wantWrong(t, written(texts("a", "b"), 1, 0x00), api.ErrForm)
	wantWrong(t, written(texts("a", "b"), 1, 0x01), api.ErrForm)
	wantWrong(t, written(texts("a", "b"), 2, 0x00), api.ErrForm)
	wantWrong(t, written(texts("a", "b"), 2, 0x03), api.ErrForm)
	wantDecode(t, written(texts("a", "b"), 2, 0x01), texts("b", "a"), api.OK)
	wantDecode(t, written(texts("a", "b"), 2, 0x02), texts("a", "b"), api.OK)
	wantDecode(t, written(texts("a", "b", "c"), 3, 0x18), texts("a", "c", "b"), api.OK) // 0, 2, 1
	wantWrong(t, written(texts("a", "b", "c"), 3, 0x28), api.ErrForm)                   // 0, 2, 2
	wantWrong(t, written(texts("a", "b", "c"), 3, 0x19), api.ErrForm)                   // 1, 2, 1
	wantWrong(t, written(texts("a", "b", "c"), 3, 0x14), api.ErrForm)                   // 0, 1, 1
}

// P10.1: by their bytes, without a sign, and a beginning ahead.
func TestOrderOfBytes(t *testing.T) {
	rnd := rand.New(rand.NewPCG(10, 1))
	ss := texts("", "\x00", "\x00\x00", "\x00\xff", "\x01", "A", "Z", "a", "a\x00", "aa", "ab", "b", "\x7f", "\x80", "\xc3\xa9", "\xed\xa0\x80", "\xf0\x9f", "\xfe", "\xff", "\xff\x00", "\xff\xff")
	for range 50 {
		mixed := shuffled(rnd, ss)
		entries, _, e := dict.Index(mixed...)
		if !equal(entries, ss) || e != api.OK {
			t.Errorf("Index(%q) = %q, %d", mixed, entries, e)
		}
		wantAll(t, mixed)
	}
	for i, s := range ss {
		wantWrong(t, written([][]byte{s, s}, 2, 0x02), api.ErrForm)
		for _, ahead := range ss[:i] {
			wantDecode(t, written([][]byte{ahead, s}, 2, 0x02), [][]byte{ahead, s}, api.OK)
			wantWrong(t, written([][]byte{s, ahead}, 2, 0x02), api.ErrForm)
			wantWrong(t, written([][]byte{s, ahead}, 2, 0x01), api.ErrForm)
		}
	}
}

// P10.1, P10.2: a width for each number of entries, where it grows and where it doesn't.
func TestWidths(t *testing.T) {
	rnd := rand.New(rand.NewPCG(10, 2))
	for n := range 70 {
		wantAll(t, shuffled(rnd, unlike(n)))
		wantAll(t, shuffled(rnd, append(unlike(n), unlike(n/2)...)))
	}
	for _, n := range []int{127, 128, 129, 255, 256, 257, 511, 512, 513} {
		wantAll(t, shuffled(rnd, unlike(n)))
	}
	for _, n := range []int{1023, 1024, 1025, 2047, 2048, 2049, 4095, 4096} {
		ss := unlike(n)
		ns := make([]int, n)
		for i := range ns {
			ns[i] = n - 1 - i
		}
		wantIndex(t, slices.Concat(ss[:n/2], ss[n/2:]), ss, plainRising(n), api.OK)
		slices.Reverse(ss)
		b := written(unlike(n), uint64(n), plainPack(plainWidth(n), ns)...)
		wantIndex(t, ss, unlike(n), ns, api.OK)
		wantEncode(t, ss, b, api.OK)
		wantDecode(t, b, ss, api.OK)
	}
}

func plainRising(n int) []int {
	ns := make([]int, n)
	for i := range ns {
		ns[i] = i
	}
	return ns
}

// P10.1: numbers that no entry has, wherever there are such.
func TestNoSuchEntry(t *testing.T) {
	for n := 1; n < 40; n++ {
		width := plainWidth(n)
		for k := range 1 << width {
			for at := range n + 1 {
				ns := slices.Insert(plainRising(n), at, k)
				b := written(unlike(n), uint64(n+1), plainPack(width, ns)...)
				if k >= n {
					wantWrong(t, b, api.ErrForm)
				} else {
					wantDecode(t, b, slices.Insert(unlike(n), at, unlike(n)[k]), api.OK)
				}
			}
		}
		for k := range n {
			// One entry's number isn't there, and another one's is there twice.
			ns := plainRising(n)
			ns[k] = (k + 1) % n
			if n > 1 {
				wantWrong(t, written(unlike(n), uint64(n), plainPack(width, ns)...), api.ErrForm)
			}
		}
	}
}

// P10.1: packed in more bits or in fewer than are needed.
func TestOtherWidths(t *testing.T) {
	for n := 1; n < 20; n++ {
		right := plainWidth(n)
		for width := range 10 {
			b := written(unlike(n), uint64(n), plainPack(width, plainRising(n))...)
			wantOnly(t, b)
			if width == right {
				wantDecode(t, b, unlike(n), api.OK)
			} else if _, e := dict.Decode(b); e == api.OK {
				t.Errorf("%d entries in %d bits: Decode(%x) is OK", n, width, b)
			}
		}
	}
}

// P10.1: as many texts and entries as may be, and one more.
func TestManyTexts(t *testing.T) {
	for _, n := range []int{127, 128, 4095, 4096} {
		ss := slices.Repeat(texts("q"), n)
		wantIndex(t, ss, texts("q"), make([]int, n), api.OK)
		wantEncode(t, ss, written(texts("q"), uint64(n)), api.OK)
		wantDecode(t, written(texts("q"), uint64(n)), ss, api.OK)
	}
	for _, n := range []int{4097, 4098, 1 << 17} {
		wantLong(t, slices.Repeat(texts("q"), n))
		wantLong(t, slices.Repeat(texts(""), n))
		wantLong(t, make([][]byte, n))
	}
	wantLong(t, unlike(4097))
	for _, count := range []uint64{4097, 4098, 1 << 31, 1 << 32, 1<<32 + 1, 1 << 63, math.MaxUint64} {
		wantWrong(t, plainPut(count), api.ErrLong)
		wantWrong(t, append(plainPut(count), 0x01), api.ErrLong)
		wantWrong(t, written(nil, count), api.ErrLong)
		wantWrong(t, written(texts("q"), count), api.ErrLong)
		wantWrong(t, written(texts("q", "r"), count, 0x02), api.ErrLong)
	}
	wantWrong(t, written(unlike(4097), 4096, plainPack(13, plainRising(4096))...), api.ErrLong)
}

// P10.1: texts as long as may be, and longer.
func TestLongTexts(t *testing.T) {
	rnd := rand.New(rand.NewPCG(10, 3))
	for _, n := range []int{126, 127, 128, 199, 200} {
		s := bytes.Repeat([]byte("x"), n)
		wantAll(t, [][]byte{s})
		wantAll(t, [][]byte{s, s[1:], s[:n-1], []byte("w"), s})
		wantDecode(t, written([][]byte{s}, 1), [][]byte{s}, api.OK)
	}
	for _, n := range []int{201, 202, 255, 256, 65536, 1 << 20} {
		s := bytes.Repeat([]byte("x"), n)
		wantLong(t, [][]byte{s})
		for at := range 4 {
			wantLong(t, slices.Insert(texts("a", "b", "c"), at, s))
		}
		wantWrong(t, written([][]byte{s}, 1), api.ErrLong)
		wantWrong(t, written([][]byte{[]byte("a"), s}, 2, 0x01), api.ErrLong)
	}
	for _, size := range []uint64{201, 1 << 31, 1 << 32, 1<<32 + 1, 1<<63 - 1, 1 << 63, math.MaxUint64} {
		wantWrong(t, slices.Concat([]byte{0x01}, plainPut(size)), api.ErrLong)
		wantWrong(t, slices.Concat([]byte{0x02, 0x01, 0x61}, plainPut(size), []byte{0x62}), api.ErrLong)
	}
	// No bound of the chapter but these two: all texts at their longest.
	ss := make([][]byte, 4096)
	for i := range ss {
		ss[i] = append([]byte{byte(i >> 8), byte(i)}, bytes.Repeat([]byte{0xff}, 198)...)
	}
	mixed := shuffled(rnd, ss)
	entries, ns, e := dict.Index(mixed...)
	if !equal(entries, ss) || len(ns) != 4096 || e != api.OK {
		t.Errorf("Index of the longest: %d entries, %d numbers, %d", len(entries), len(ns), e)
	}
	b, e := dict.Encode(mixed...)
	if want := 2 + 4096*202 + 2 + 4096*12/8; len(b) != want || e != api.OK {
		t.Errorf("Encode of the longest: %d bytes, %d; want %d", len(b), e, want)
	}
	wantDecode(t, b, mixed, api.OK)
}

// P10.1: the error of each number of the bytes.
func TestDecodeNumbers(t *testing.T) {
	wide := append(bytes.Repeat([]byte{0xff}, 9), 0x02)
	for _, x := range []struct {
		b []byte
		e api.Errno
	}{{nil, api.ErrShort}, {[]byte{0x80}, api.ErrShort}, {[]byte{0x80, 0x00}, api.ErrForm}, {[]byte{0x81, 0x00}, api.ErrForm}, {wide, api.ErrWide}} {
		wantWrong(t, x.b, x.e)
		wantWrong(t, slices.Concat([]byte("\x01"), x.b), x.e)
		wantWrong(t, slices.Concat([]byte("\x02\x01a"), x.b), x.e)
		wantWrong(t, slices.Concat([]byte("\x80\x20\x01a"), x.b), x.e)
		wantWrong(t, slices.Concat([]byte("\x00"), x.b), x.e)
		wantWrong(t, slices.Concat([]byte("\x01\x01a"), x.b), x.e)
		wantWrong(t, slices.Concat([]byte("\x02\x01a\x01b"), x.b), x.e)
	}
}

// P1, P10.1: where several errors apply, the one named first.
func TestDecodeOrder(t *testing.T) {
	for _, x := range []struct {
		b string
		e api.Errno
	}{
		{"\x81\x20\x80\x00", api.ErrLong},       // 4097 entries, a length in two forms
		{"\x01\xc9\x01", api.ErrLong},           // a length of 201, nothing behind it
		{"\x02\x01b\xc9\x01a", api.ErrLong},     // the same behind an entry
		{"\x02\x01b\x02a", api.ErrShort},        // what there is stands ahead
		{"\x02\x01b\x01a\x80\x00", api.ErrForm}, // no order, a number of texts in two forms
		{"\x02\x01b\x01a\x81\x20", api.ErrForm}, // no order, too many texts
		{"\x02\x01b\x01a", api.ErrForm},         // no order, no number of texts
		{"\x03\x01b\x01a\x80\x00", api.ErrForm}, // no order, a wrong length
		{"\x03\x01b\x01a\xc9\x01", api.ErrForm}, // no order, a length of 201
		{"\x03\x01b\x01a\xff\xff\x80\x80\x80", api.ErrForm},
		{"\x03\x01b\x80\x00\x01a", api.ErrForm},      // a wrong length ahead of the next
		{"\x02\x01a\x01b\x81\x20", api.ErrLong},      // 4097 texts, no bits
		{"\x02\x01a\x01b\x81\x20\x00", api.ErrLong},  // the same, with a byte
		{"\x02\x01a\x01b\x09\xff", api.ErrShort},     // a byte too few
		{"\x02\x01a\x01b\x02\xff\xff", api.ErrTrail}, // a byte too many
		{"\x02\x01a\x01b\x02\x06", api.ErrForm},      // a bit that belongs to no number
		{"\x02\x01a\x01b\x02\x82", api.ErrForm},
		{"\x03\x01a\x01b\x01c\x01\x03\x00", api.ErrTrail}, // no such entry, a byte too many
		{"\x03\x01a\x01b\x01c\x05\x03", api.ErrShort},     // no such entry, a byte too few
		{"\x01\x01a\x00\x00", api.ErrTrail},               // an entry without texts, a byte too many
		{"\x01\x01a\x01\x00", api.ErrTrail},
	} {
		wantWrong(t, []byte(x.b), x.e)
		wantOnly(t, []byte(x.b))
	}
}

// P10.2, P3: every beginning of what is encoded is short, and everything with a byte behind it trails.
func TestDecodeCut(t *testing.T) {
	rnd := rand.New(rand.NewPCG(10, 4))
	for _, ss := range [][][]byte{texts("b", "a", "b"), texts("a"), texts("", "", "x"), shuffled(rnd, unlike(150)), someTexts(rnd, 9, 40)} {
		b := plainEncode(ss)
		for n := range len(b) {
			wantWrong(t, b[:n], api.ErrShort)
		}
		for c := range 256 {
			wantWrong(t, append(slices.Clone(b), byte(c)), api.ErrTrail)
		}
	}
}

// each does something for all lists of up to n letters.
func each(letters []byte, n int, do func(b []byte)) {
	last := [][]byte{{}}
	for range n {
		var next [][]byte
		for _, b := range last {
			for _, c := range letters {
				next = append(next, append(slices.Clone(b), c))
			}
		}
		for _, b := range next {
			do(b)
		}
		last = next
	}
}

// P10.1, P10.2: all lists of up to five texts out of five.
func TestAllShortLists(t *testing.T) {
	stock := texts("", "a", "a\x00", "b", "\xff")
	each([]byte{0, 1, 2, 3, 4}, 5, func(b []byte) {
		var ss [][]byte
		for _, c := range b {
			ss = append(ss, stock[c])
		}
		wantAll(t, ss)
	})
}

// P10.1, P10.2, P3: all bytes of up to two, all last bytes, and all of up to seven from few at which something changes.
func TestAllShortBytes(t *testing.T) {
	wantOnly(t, nil)
	for c := range 256 {
		wantOnly(t, []byte{byte(c)})
		wantOnly(t, []byte{0x01, 0x01, 0x61, byte(c)})
		for d := range 256 {
			wantOnly(t, []byte{byte(c), byte(d)})
			wantOnly(t, []byte{0x01, 0x01, byte(c), byte(d)})
			wantOnly(t, []byte{0x02, 0x01, byte(c), 0x01, byte(d), 0x02, 0x02})
			wantOnly(t, []byte{0x02, 0x00, 0x01, 0x61, byte(c), byte(d)})
			wantOnly(t, []byte{0x03, 0x00, 0x01, 0x61, 0x01, 0x62, byte(c), byte(d)})
		}
	}
	each([]byte{0x00, 0x01, 0x02, 0x03, 0x05, 0x80, 0xff}, 6, func(b []byte) {
		wantOnly(t, b)
		wantOnly(t, append([]byte{0x01}, b...))
		wantOnly(t, append([]byte{0x02, 0x00, 0x01}, b...))
	})
}

// P10.1, P10.2: texts and bytes of all sorts.
func TestRandom(t *testing.T) {
	rnd := rand.New(rand.NewPCG(10, 5))
	for range 2000 {
		ss := someTexts(rnd, 1+rnd.IntN(20), rnd.IntN(30))
		wantAll(t, ss)
		b := plainEncode(ss)
		for range 10 {
			turned := slices.Clone(b)
			turned[rnd.IntN(len(b))] ^= 1 << rnd.IntN(8)
			wantOnly(t, turned)
		}
	}
}

const mark = 0xa5

// roomy is a text with room behind it that is filled.
func roomy(b []byte) []byte {
	all := slices.Concat(b, bytes.Repeat([]byte{mark}, 9))
	return all[:len(b)]
}

// roomyTexts are texts with room behind each of them, and behind their list.
func roomyTexts(ss [][]byte) [][]byte {
	all := slices.Concat(ss, slices.Repeat(texts("\xa5"), 9))
	for i := range all {
		all[i] = roomy(all[i])
	}
	return all[:len(ss)]
}

func isMarked(b []byte) bool {
	return bytes.Equal(b, bytes.Repeat([]byte{mark}, len(b)))
}

// P10.3: neither what is handed in is changed, nor what lies behind its length.
func TestArgumentsStay(t *testing.T) {
	ss := texts("c", "a", "", "bb", "a", "c")
	b := plainEncode(ss)
	for n := range len(ss) + 1 {
		given := roomyTexts(ss[:n])
		dict.Index(given...)
		dict.Encode(given...)
		if !equal(given, ss[:n]) {
			t.Errorf("texts changed: %q", given)
		}
		for i, s := range given[:n+9] {
			if !isMarked(s[len(s):len(s)+9]) || i >= n && !isMarked(s) {
				t.Errorf("spare room changed: %q", s[:len(s)+9])
			}
		}
	}
	for n := range len(b) + 1 {
		given := roomy(b[:n])
		dict.Decode(given)
		if !bytes.Equal(given, b[:n]) || !isMarked(given[n:n+9]) {
			t.Errorf("bytes changed: %x", given[:n+9])
		}
	}
}

// fill writes over a list and its spare room.
func fill(b []byte, c byte) {
	b = b[:cap(b)]
	for i := range b {
		b[i] = c
	}
}

// wantUnshared fills the texts one by one, each with a byte of its own: the others stay.
func wantUnshared(t *testing.T, got, want [][]byte) {
	t.Helper()
	if !equal(got, want) {
		t.Errorf("%q; want %q", got, want)
		return
	}
	for i := range got {
		fill(got[i], byte(i))
		if !equal(got[i+1:], want[i+1:]) {
			t.Errorf("what is written into text %d is seen in %q", i, got[i+1:])
		}
	}
	for i, s := range got {
		if s = s[:cap(s)]; !bytes.Equal(s, bytes.Repeat([]byte{byte(i)}, len(s))) {
			t.Errorf("text %d was written over: %x", i, s)
		}
	}
	clear(got[:cap(got)])
}

// P10.3: what is answered stays, whatever is done to the arguments, to the spare room or to other answers.
func TestAnswersAreNew(t *testing.T) {
	for _, ss := range [][][]byte{nil, texts(""), texts("b", "a", "b"), texts("a", "a", "a"), texts("abc", "", "ab", "abc", "x", ""), slices.Repeat(texts("a longer one", "another one"), 20)} {
		entries := plainEntries(ss)
		ns := plainNumbers(entries, ss)
		b := plainEncode(ss)
		for range 2 {
			givenSs, givenB := cloned(ss), slices.Clone(b)
			gotEntries, gotNs, _ := dict.Index(givenSs...)
			encoded, _ := dict.Encode(givenSs...)
			decoded, _ := dict.Decode(givenB)
			for _, s := range givenSs {
				fill(s, mark)
			}
			clear(givenSs)
			fill(givenB, mark)
			wantUnshared(t, gotEntries, entries)
			if !slices.Equal(gotNs, ns) || !bytes.Equal(encoded, b) {
				t.Errorf("answers changed: %v, %x", gotNs, encoded)
			}
			wantUnshared(t, decoded, ss)
			fill(encoded, mark)
			clear(gotNs[:cap(gotNs)])
		}
	}
}

// P10.3: the same memory may be handed in twice.
func TestSharedArguments(t *testing.T) {
	s := []byte("abcabc")
	ss := [][]byte{s[:3], s[3:], s, s[1:4], s[:0], s[:3]}
	wantAll(t, ss)
	entries, _, _ := dict.Index(ss...)
	wantUnshared(t, entries, texts("", "abc", "abcabc", "bca"))
	if string(s) != "abcabc" {
		t.Errorf("texts changed: %q", s)
	}
}

// P2: asked again, the same.
func TestAskedAgain(t *testing.T) {
	rnd := rand.New(rand.NewPCG(10, 6))
	ss := someTexts(rnd, 30, 60)
	for range 20 {
		wantAll(t, ss)
		wantLong(t, make([][]byte, 5000))
		wantWrong(t, []byte("\x02\x01b\x01a"), api.ErrForm)
	}
}
