package packed_test

import (
	"bytes"
	"math"
	"math/big"
	"math/rand/v2"
	"slices"
	"testing"

	"stoa/api"
	"stoa/packed"
)

// The helpers beneath say in the plainest way what the chapter says, in numbers without a bound and without the layers below.

// plainPut divides by 128 until nothing is left.
func plainPut(u uint64) []byte {
	var b []byte
	for ; u >= 128; u /= 128 {
		b = append(b, byte(u%128)+128)
	}
	return append(b, byte(u))
}

// plainGet takes a number from the beginning of b, and answers what is left.
func plainGet(b []byte) (uint64, []byte, api.Errno) {
	u := new(big.Int)
	for i, c := range b {
		if i == 9 && c > 1 {
			return 0, nil, api.ErrWide
		}
		u.Add(u, new(big.Int).Lsh(big.NewInt(int64(c%128)), uint(7*i)))
		if c == 0 && i > 0 {
			return 0, nil, api.ErrForm
		}
		if c < 128 {
			return u.Uint64(), b[i+1:], api.OK
		}
	}
	return 0, nil, api.ErrShort
}

// plainFold: 0, -1, 1, -2, 2 and so on become 0, 1, 2, 3, 4.
func plainFold(v int64) uint64 {
	if v < 0 {
		return uint64(-(v+1))*2 + 1
	}
	return uint64(v) * 2
}

func plainUnfold(u uint64) int64 {
	if u%2 == 1 {
		return -int64(u/2) - 1
	}
	return int64(u / 2)
}

// plainFar is how far each number lies above the least.
func plainFar(vs []int64) []*big.Int {
	least := big.NewInt(slices.Min(vs))
	far := make([]*big.Int, len(vs))
	for i, v := range vs {
		far[i] = new(big.Int).Sub(big.NewInt(v), least)
	}
	return far
}

// plainWidth is the bits that the greatest needs.
func plainWidth(far []*big.Int) int {
	width := 0
	for _, d := range far {
		width = max(width, d.BitLen())
	}
	return width
}

// plainPack lays the distances one behind the other into one great number, whose bytes are told from the lowest one on.
func plainPack(width int, far []*big.Int) []byte {
	all := new(big.Int)
	for i, d := range far {
		all.Or(all, new(big.Int).Lsh(d, uint(width*i)))
	}
	b := all.FillBytes(make([]byte, (width*len(far)+7)/8))
	slices.Reverse(b)
	return b
}

func plainEncode(vs []int64) []byte {
	b := plainPut(uint64(len(vs)))
	if len(vs) == 0 {
		return b
	}
	far := plainFar(vs)
	width := plainWidth(far)
	return slices.Concat(b, plainPut(plainFold(slices.Min(vs))), []byte{byte(width)}, plainPack(width, far))
}

// plainUnpack is the distances that all of b writes.
func plainUnpack(b []byte, width, n int) ([]*big.Int, api.Errno) {
	need := (width*n + 7) / 8
	if len(b) < need {
		return nil, api.ErrShort
	}
	if len(b) > need {
		return nil, api.ErrTrail
	}
	turned := slices.Clone(b)
	slices.Reverse(turned)
	all := new(big.Int).SetBytes(turned)
	if all.BitLen() > width*n {
		return nil, api.ErrForm
	}
	low := new(big.Int).Sub(new(big.Int).Lsh(big.NewInt(1), uint(width)), big.NewInt(1))
	far := make([]*big.Int, n)
	for i := range far {
		far[i] = new(big.Int).And(new(big.Int).Rsh(all, uint(width*i)), low)
	}
	return far, api.OK
}

func plainDecode(b []byte) ([]int64, api.Errno) {
	count, b, e := plainGet(b)
	switch {
	case e != api.OK:
		return nil, e
	case count > 4096:
		return nil, api.ErrLong
	case count == 0 && len(b) > 0:
		return nil, api.ErrTrail
	case count == 0:
		return nil, api.OK
	}
	u, b, e := plainGet(b)
	switch {
	case e != api.OK:
		return nil, e
	case len(b) == 0:
		return nil, api.ErrShort
	case b[0] > 64:
		return nil, api.ErrForm
	}
	far, e := plainUnpack(b[1:], int(b[0]), int(count))
	if e != api.OK {
		return nil, e
	}
	if plainWidth(far) != int(b[0]) {
		return nil, api.ErrForm
	}
	vs := make([]int64, len(far))
	zero := false
	for i, d := range far {
		v := new(big.Int).Add(big.NewInt(plainUnfold(u)), d)
		if !v.IsInt64() {
			return nil, api.ErrForm
		}
		vs[i] = v.Int64()
		zero = zero || d.Sign() == 0
	}
	if !zero {
		return nil, api.ErrForm
	}
	return vs, api.OK
}

// plainRange goes through all numbers.
func plainRange(b []byte) (int64, int64, int, api.Errno) {
	vs, e := plainDecode(b)
	if e != api.OK {
		return 0, 0, 0, e
	}
	if len(vs) == 0 {
		return 0, 0, 0, api.ErrArg
	}
	lo, hi := vs[0], vs[0]
	for _, v := range vs {
		if v < lo {
			lo = v
		}
		if v > hi {
			hi = v
		}
	}
	return lo, hi, len(vs), api.OK
}

// written is the bytes of a count, a least number, a width and what stands behind them.
func written(count uint64, least int64, width byte, rest ...byte) []byte {
	return slices.Concat(plainPut(count), plainPut(plainFold(least)), []byte{width}, rest)
}

// ends are numbers at which a byte or a bit more is needed, and those at the ends of 64 bits.
func ends() []int64 {
	out := []int64{math.MinInt64, math.MinInt64 + 1, math.MaxInt64 - 1, math.MaxInt64}
	for power := range 63 {
		at := int64(1) << power
		out = append(out, at-1, at, at+1, -at, -at-1)
	}
	return out
}

// someNumbers are n numbers less than 2 to the width above their least one, which lies anywhere.
func someNumbers(rnd *rand.Rand, width, n int) []int64 {
	vs := make([]int64, n)
	least := int64(rnd.Uint64() >> rnd.IntN(64))
	if width == 64 {
		least = math.MinInt64
	}
	for i := range vs {
		d := uint64(0)
		if width > 0 {
			d = rnd.Uint64() >> (64 - width)
		}
		vs[i] = int64(uint64(least) + min(d, uint64(math.MaxInt64)-uint64(least)))
	}
	return vs
}

func same(v int64, n int) []int64 {
	return slices.Repeat([]int64{v}, n)
}

func wantEncode(t *testing.T, vs []int64, want []byte, wantErr api.Errno) {
	t.Helper()
	b, e := packed.Encode(vs...)
	if !bytes.Equal(b, want) || e != wantErr {
		t.Errorf("Encode(%v) = %x, %d; want %x, %d", vs, b, e, want, wantErr)
	}
}

func wantDecode(t *testing.T, b []byte, want []int64, wantErr api.Errno) {
	t.Helper()
	vs, e := packed.Decode(b)
	if !slices.Equal(vs, want) || e != wantErr {
		t.Errorf("Decode(%x) = %v, %d; want %v, %d", b, vs, e, want, wantErr)
	}
}

func wantRange(t *testing.T, b []byte, lo, hi int64, n int, wantErr api.Errno) {
	t.Helper()
	gotLo, gotHi, gotN, e := packed.Range(b)
	if gotLo != lo || gotHi != hi || gotN != n || e != wantErr {
		t.Errorf("Range(%x) = %d, %d, %d, %d; want %d, %d, %d, %d", b, gotLo, gotHi, gotN, e, lo, hi, n, wantErr)
	}
}

// wantWrong: neither Decode nor Range reads b.
func wantWrong(t *testing.T, b []byte, wantErr api.Errno) {
	t.Helper()
	wantDecode(t, b, nil, wantErr)
	wantRange(t, b, 0, 0, 0, wantErr)
}

// wantAll holds all three calls for the numbers against the plain readings, there and back.
func wantAll(t *testing.T, vs []int64) {
	t.Helper()
	b := plainEncode(vs)
	wantEncode(t, vs, b, api.OK)
	wantDecode(t, b, vs, api.OK)
	if len(vs) > 0 {
		wantRange(t, b, slices.Min(vs), slices.Max(vs), len(vs), api.OK)
	}
}

// wantOnly holds Decode and Range against the plain readings; what is decoded is written in no other way.
func wantOnly(t *testing.T, b []byte) {
	t.Helper()
	want, wantErr := plainDecode(b)
	wantDecode(t, b, want, wantErr)
	lo, hi, n, e := plainRange(b)
	wantRange(t, b, lo, hi, n, e)
	if wantErr == api.OK {
		wantEncode(t, want, b, api.OK)
	}
}

// P9.1: the chapter's examples, and others worked out by hand.
func TestExamples(t *testing.T) {
	for _, x := range []struct {
		vs     []int64
		b      []byte
		lo, hi int64
	}{
		{[]int64{10, 12, 11}, []byte{0x03, 0x14, 0x02, 0x18}, 10, 12},
		{[]int64{5}, []byte{0x01, 0x0a, 0x00}, 5, 5},
		{[]int64{0}, []byte{0x01, 0x00, 0x00}, 0, 0},
		{[]int64{5, 5, 5}, []byte{0x03, 0x0a, 0x00}, 5, 5},
		{[]int64{-1, 0}, []byte{0x02, 0x01, 0x01, 0x02}, -1, 0},
		{[]int64{0, -1}, []byte{0x02, 0x01, 0x01, 0x01}, -1, 0},
		{[]int64{-64, 191}, []byte{0x02, 0x7f, 0x08, 0x00, 0xff}, -64, 191},
		{[]int64{64, 320}, []byte{0x02, 0x80, 0x01, 0x09, 0x00, 0x00, 0x02}, 64, 320},
		{
			[]int64{math.MaxInt64, math.MinInt64},
			slices.Concat([]byte{0x02}, bytes.Repeat([]byte{0xff}, 9), []byte{0x01, 0x40}, bytes.Repeat([]byte{0xff}, 8), make([]byte, 8)),
			math.MinInt64, math.MaxInt64,
		},
	} {
		wantEncode(t, x.vs, x.b, api.OK)
		wantDecode(t, x.b, x.vs, api.OK)
		wantRange(t, x.b, x.lo, x.hi, len(x.vs), api.OK)
	}
	wantWrong(t, []byte{0x01, 0x0a, 0x01, 0x00}, api.ErrForm)
}

// P9.1: no numbers.
func TestNothing(t *testing.T) {
	wantEncode(t, nil, []byte{0x00}, api.OK)
	wantEncode(t, []int64{}, []byte{0x00}, api.OK)
	wantDecode(t, []byte{0x00}, nil, api.OK)
	wantRange(t, []byte{0x00}, 0, 0, 0, api.ErrArg)
	wantWrong(t, nil, api.ErrShort)
	wantWrong(t, []byte{}, api.ErrShort)
	for c := range 256 {
		wantWrong(t, []byte{0x00, byte(c)}, api.ErrTrail)
	}
	wantWrong(t, []byte{0x00, 0x0a, 0x00}, api.ErrTrail)
}

// P9.1, P9.2: as many numbers as may be, and one more.
func TestManyNumbers(t *testing.T) {
	rnd := rand.New(rand.NewPCG(9, 1))
	for _, n := range []int{127, 128, 129, 4095, 4096} {
		wantAll(t, same(-3, n))
		for _, width := range []int{1, 3, 8, 31, 63, 64} {
			wantAll(t, someNumbers(rnd, width, n))
		}
	}
	for _, n := range []int{4097, 4098, 1 << 17} {
		wantEncode(t, same(-3, n), nil, api.ErrLong)
		wantEncode(t, someNumbers(rnd, 64, n), nil, api.ErrLong)
	}
	wantDecode(t, written(4096, 7, 0), same(7, 4096), api.OK)
	for _, count := range []uint64{4097, 4098, 1 << 31, 1 << 32, 1<<32 + 1, 1 << 63, math.MaxUint64} {
		wantWrong(t, written(count, 7, 0), api.ErrLong)
		wantWrong(t, plainPut(count), api.ErrLong)
	}
}

// P9.1: the error of each number of the bytes.
func TestDecodeNumbers(t *testing.T) {
	wide := append(bytes.Repeat([]byte{0xff}, 9), 0x02)
	for _, x := range []struct {
		b []byte
		e api.Errno
	}{{nil, api.ErrShort}, {[]byte{0x80}, api.ErrShort}, {[]byte{0x80, 0x00}, api.ErrForm}, {wide, api.ErrWide}} {
		wantWrong(t, x.b, x.e)
		wantWrong(t, slices.Concat([]byte{0x01}, x.b), x.e)
		wantWrong(t, slices.Concat([]byte{0x80, 0x20}, x.b), x.e)
	}
}

// P9.1: all widths, with as many bytes as they ask for, fewer and more.
func TestDecodeWidths(t *testing.T) {
	wantWrong(t, []byte{0x01, 0x0a}, api.ErrShort)
	wantWrong(t, []byte{0x80, 0x20, 0x0a}, api.ErrShort)
	for width := range 256 {
		for _, n := range []int{1, 2, 3, 8, 9} {
			if width > 64 {
				wantWrong(t, written(uint64(n), 5, byte(width), make([]byte, (width*n+7)/8)...), api.ErrForm)
				wantWrong(t, written(uint64(n), 5, byte(width)), api.ErrForm)
				continue
			}
			need := (width*n + 7) / 8
			for size := range need {
				wantWrong(t, written(uint64(n), 5, byte(width), make([]byte, size)...), api.ErrShort)
			}
			wantWrong(t, written(uint64(n), 5, byte(width), make([]byte, need+1)...), api.ErrTrail)
			wantWrong(t, written(uint64(n), 5, byte(width), bytes.Repeat([]byte{0xff}, need+1)...), api.ErrTrail)
			wantOnly(t, written(uint64(n), 5, byte(width), make([]byte, need)...))
		}
	}
}

// P9.1, P9.2: a width that isn't the least.
func TestDecodeTooWide(t *testing.T) {
	for width := range 64 {
		least := int64(math.MinInt64)
		far := []*big.Int{new(big.Int), new(big.Int).Sub(new(big.Int).Lsh(big.NewInt(1), uint(width)), big.NewInt(1))}
		wantDecode(t, written(2, least, byte(width), plainPack(width, far)...), []int64{least, int64(uint64(least) + far[1].Uint64())}, api.OK)
		for more := width + 1; more <= 64; more++ {
			wantWrong(t, written(2, least, byte(more), plainPack(more, far)...), api.ErrForm)
		}
	}
	for width := 1; width <= 64; width++ {
		wantWrong(t, written(1, 5, byte(width), make([]byte, (width+7)/8)...), api.ErrForm)
	}
}

// P9.1, P9.2: distances of which none is 0.
func TestDecodeNoLeast(t *testing.T) {
	wantWrong(t, written(1, 5, 1, 0x01), api.ErrForm)
	wantWrong(t, written(2, 5, 1, 0x03), api.ErrForm)
	wantDecode(t, written(2, 5, 1, 0x01), []int64{6, 5}, api.OK)
	wantDecode(t, written(2, 5, 1, 0x02), []int64{5, 6}, api.OK)
	wantWrong(t, written(3, 5, 2, 0x39), api.ErrForm)                                   // 1, 2, 3
	wantWrong(t, written(3, 5, 2, 0x36), api.ErrForm)                                   // 2, 1, 3
	wantDecode(t, written(3, 5, 2, 0x0d), []int64{6, 8, 5}, api.OK)                     // 1, 3, 0
	wantDecode(t, written(3, 5, 2, 0x34), []int64{5, 6, 8}, api.OK)                     // 0, 1, 3
	wantWrong(t, written(1, math.MinInt64, 64, 0, 0, 0, 0, 0, 0, 0, 0x80), api.ErrForm) // 2 to the 63rd alone
}

// P9.1, P9.2: distances that lead to the greatest number and one above it.
func TestDecodeTooFar(t *testing.T) {
	top := big.NewInt(math.MaxInt64)
	for _, least := range ends() {
		room := new(big.Int).Sub(top, big.NewInt(least))
		for _, over := range []int64{-1, 0, 1, 2} {
			d := new(big.Int).Add(room, big.NewInt(over))
			if d.Sign() <= 0 || d.BitLen() > 64 {
				continue
			}
			b := written(2, least, byte(d.BitLen()), plainPack(d.BitLen(), []*big.Int{new(big.Int), d})...)
			if over > 0 {
				wantWrong(t, b, api.ErrForm)
				continue
			}
			wantDecode(t, b, []int64{least, math.MaxInt64 + over}, api.OK)
			wantRange(t, b, least, math.MaxInt64+over, 2, api.OK)
		}
	}
	wantWrong(t, written(2, math.MaxInt64, 1, 0x02), api.ErrForm)
	wantDecode(t, written(2, math.MaxInt64, 0), same(math.MaxInt64, 2), api.OK)
	all := bytes.Repeat([]byte{0xff}, 8)
	wantWrong(t, written(2, math.MinInt64+1, 64, append(all, make([]byte, 8)...)...), api.ErrForm)
	wantWrong(t, written(2, 0, 64, append(all, make([]byte, 8)...)...), api.ErrForm)
	wantWrong(t, written(2, -1, 64, append(all, make([]byte, 8)...)...), api.ErrForm)
}

// P1, P9.1: where several errors apply, the one named first.
func TestDecodeOrder(t *testing.T) {
	wantWrong(t, written(4097, 5, 65, 0x01), api.ErrLong)
	wantWrong(t, slices.Concat(plainPut(4097), []byte{0x80, 0x00}), api.ErrLong)
	wantWrong(t, []byte{0x00, 0x80, 0x00}, api.ErrTrail)
	wantWrong(t, []byte{0x00, 0x00, 0x41}, api.ErrTrail)
	wantWrong(t, written(9, 5, 65), api.ErrForm)
	wantWrong(t, written(2, 5, 65, 0x00, 0x00, 0x00), api.ErrForm)
	wantWrong(t, written(9, 5, 1, 0xff), api.ErrShort)
	wantWrong(t, written(2, 5, 1, 0xff, 0x00), api.ErrTrail)
	wantWrong(t, written(1, 5, 0, 0x00), api.ErrTrail)
	wantWrong(t, written(2, 5, 1, 0x04), api.ErrForm) // a bit that belongs to no number
	wantWrong(t, written(2, 5, 1, 0x82), api.ErrForm)
}

// P9.2, P3: every beginning of what is encoded is short, and everything with a byte behind it trails.
func TestDecodeCut(t *testing.T) {
	for _, vs := range [][]int64{{7, 300, -1, math.MinInt64, 300}, {9}, {64, 65, 66}, same(-1, 300)} {
		b := plainEncode(vs)
		for n := range len(b) {
			wantWrong(t, b[:n], api.ErrShort)
		}
		for c := range 256 {
			wantWrong(t, append(slices.Clone(b), byte(c)), api.ErrTrail)
		}
	}
}

// P9.1, P9.2: the numbers at all edges, alone and two by two.
func TestEnds(t *testing.T) {
	for _, v := range ends() {
		wantAll(t, []int64{v})
		for _, w := range ends() {
			wantAll(t, []int64{v, w})
			wantAll(t, []int64{w, v, w})
		}
	}
	wantAll(t, ends())
}

// P9.1, P9.2: all lists of up to six numbers out of four.
func TestAllShortLists(t *testing.T) {
	for n := range 7 {
		vs := make([]int64, n)
		for k := range 1 << (2 * n) {
			for i := range vs {
				vs[i] = int64(k>>(2*i)&3) - 2
			}
			wantAll(t, vs)
		}
	}
}

// P9.1, P9.2, P3: all bytes of up to two, all small pieces with all last bytes, and all of up to six from few at which something changes.
func TestAllShortBytes(t *testing.T) {
	wantOnly(t, nil)
	for c := range 256 {
		wantOnly(t, []byte{byte(c)})
		for d := range 256 {
			wantOnly(t, []byte{byte(c), byte(d)})
			wantOnly(t, []byte{1, byte(c), byte(d)})
		}
	}
	for count := range 10 {
		for width := range 10 {
			for c := range 256 {
				wantOnly(t, written(uint64(count), -1, byte(width), byte(c)))
				wantOnly(t, written(uint64(count), 1, byte(width), 0, byte(c)))
			}
		}
	}
	last := [][]byte{{}}
	for range 6 {
		var next [][]byte
		for _, b := range last {
			for _, c := range []byte{0x00, 0x01, 0x02, 0x03, 0x08, 0x80, 0xff} {
				next = append(next, append(slices.Clone(b), c))
			}
		}
		for _, b := range next {
			wantOnly(t, b)
		}
		last = next
	}
}

// P9.1, P9.2: numbers and bytes of all sorts.
func TestRandom(t *testing.T) {
	rnd := rand.New(rand.NewPCG(9, 2))
	for range 3000 {
		vs := someNumbers(rnd, rnd.IntN(65), rnd.IntN(20))
		wantAll(t, vs)
		b := plainEncode(vs)
		for range 10 {
			turned := slices.Clone(b)
			turned[rnd.IntN(len(b))] ^= 1 << rnd.IntN(8)
			wantOnly(t, turned)
		}
	}
}

// P9.3: no more bytes than are promised, and just as many where both heads are at their longest.
func TestSize(t *testing.T) {
	rnd := rand.New(rand.NewPCG(9, 3))
	for width := range 65 {
		for _, n := range []int{0, 1, 2, 7, 8, 127, 128, 1000, 4096} {
			vs := someNumbers(rnd, width, n)
			b, e := packed.Encode(vs...)
			if most := 13 + (n*width+7)/8; e != api.OK || len(b) > most {
				t.Errorf("%d numbers of width %d: %d bytes, %d; want at most %d", n, width, len(b), e, most)
			}
		}
		vs := same(math.MinInt64, 4096)
		vs[9] = int64(uint64(vs[9]) + uint64(1)<<width - 1)
		b, e := packed.Encode(vs...)
		if most := 13 + (4096*width+7)/8; e != api.OK || len(b) != most {
			t.Errorf("the longest of width %d: %d bytes, %d; want %d", width, len(b), e, most)
		}
	}
}

// roomy is a list with room behind it that is filled with v.
func roomy[T any](list []T, v T) []T {
	all := slices.Concat(list, slices.Repeat([]T{v}, 9))
	return all[:len(list)]
}

// P9.4: neither what is handed in is changed, nor what lies behind its length.
func TestArgumentsStay(t *testing.T) {
	vs := []int64{12, 7, 300, -1, 7}
	b := plainEncode(vs)
	for n := range len(vs) + 1 {
		given := roomy(vs[:n], 99)
		packed.Encode(given...)
		if !slices.Equal(given[:n+9], slices.Concat(vs[:n], same(99, 9))) {
			t.Errorf("numbers changed: %v", given[:n+9])
		}
	}
	for n := range len(b) + 1 {
		given := roomy(b[:n], 99)
		packed.Decode(given)
		packed.Range(given)
		if !bytes.Equal(given[:n+9], slices.Concat(b[:n], bytes.Repeat([]byte{99}, 9))) {
			t.Errorf("bytes changed: %x", given[:n+9])
		}
	}
}

// P9.4: what is answered stays, whatever is done to the arguments, to the spare room or to other answers.
func TestAnswersAreNew(t *testing.T) {
	for _, vs := range [][]int64{nil, {5}, {10, 12, 11}, {-1, math.MaxInt64}} {
		b := plainEncode(vs)
		for range 2 {
			givenVs, givenB := slices.Clone(vs), slices.Clone(b)
			encoded, _ := packed.Encode(givenVs...)
			decoded, _ := packed.Decode(givenB)
			clear(givenVs)
			clear(givenB)
			if !bytes.Equal(encoded, b) || !slices.Equal(decoded, vs) {
				t.Errorf("answers changed: %x, %v", encoded, decoded)
			}
			clear(encoded[:cap(encoded)])
			clear(decoded[:cap(decoded)])
		}
	}
}

// P2: asked again, the same.
func TestAskedAgain(t *testing.T) {
	vs := []int64{3, 3, 4}
	wantAll(t, vs)
	packed.Encode(same(1, 5000)...)
	packed.Decode([]byte{0x02, 0x06, 0x02, 0x06})
	packed.Range([]byte{0x00})
	wantAll(t, vs)
}
