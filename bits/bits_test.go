package bits_test

import (
	"bytes"
	"cmp"
	"math"
	"math/big"
	"math/rand/v2"
	"slices"
	"testing"

	"stoa/api"
	"stoa/bits"
)

// The helpers beneath say in the plainest way what the chapter says: bit by bit, in numbers without a bound.

// plainWidth looks for the least width by trying all of them.
func plainWidth(vs []uint64) int {
	for width := 0; ; width++ {
		fits := true
		for _, v := range vs {
			bound := new(big.Int).Lsh(big.NewInt(1), uint(width))
			fits = fits && new(big.Int).SetUint64(v).Cmp(bound) < 0
		}
		if fits {
			return width
		}
	}
}

// plainBits is the row of bits, one an element.
func plainBits(width int, vs []uint64) []byte {
	row := make([]byte, width*len(vs))
	for i, v := range vs {
		for j := range width {
			row[i*width+j] = byte(new(big.Int).SetUint64(v).Bit(j))
		}
	}
	return row
}

// plainPack lays the row's bits into bytes by their worth.
func plainPack(width int, vs []uint64) []byte {
	row := plainBits(width, vs)
	b := make([]byte, (len(row)+7)/8)
	for k, bit := range row {
		for range k % 8 {
			bit *= 2
		}
		b[k/8] += bit
	}
	return b
}

// plainAt reads the i-th number's bits one by one; false: one of them isn't there.
func plainAt(b []byte, width, i int) (uint64, bool) {
	v := new(big.Int)
	for j := range width {
		k := i*width + j
		if k/8 >= len(b) {
			return 0, false
		}
		v.SetBit(v, j, uint(b[k/8]>>(k%8)&1))
	}
	return v.Uint64(), true
}

// plainUnpack is Unpack for arguments in their range.
func plainUnpack(b []byte, width, n int) ([]uint64, api.Errno) {
	vs := make([]uint64, n)
	for i := range vs {
		v, ok := plainAt(b, width, i)
		if !ok {
			return nil, api.ErrShort
		}
		vs[i] = v
	}
	again := plainPack(width, vs)
	switch {
	case len(b) > len(again):
		return nil, api.ErrTrail
	case !bytes.Equal(b, again):
		return nil, api.ErrForm
	}
	return vs, api.OK
}

// edges are the numbers just below, at and just above 2 to each width.
func edges() []uint64 {
	out := []uint64{0, math.MaxUint64}
	for width := range 64 {
		at := uint64(1) << width
		out = append(out, at-1, at, at+1)
	}
	return out
}

// signedEdges are the edges seen with a sign, and their opposites.
func signedEdges() []int64 {
	var out []int64
	for _, u := range edges() {
		out = append(out, int64(u), -int64(u))
	}
	return out
}

func numbers(rnd *rand.Rand, width, n int) []uint64 {
	vs := make([]uint64, n)
	for i := range vs {
		if width > 0 {
			vs[i] = rnd.Uint64() >> (64 - width)
		}
	}
	return vs
}

func wantPack(t *testing.T, width int, vs []uint64, want []byte, wantErr api.Errno) {
	t.Helper()
	b, e := bits.Pack(width, vs...)
	if !bytes.Equal(b, want) || e != wantErr {
		t.Errorf("Pack(%d) of %d numbers = %x, %d; want %x, %d", width, len(vs), b, e, want, wantErr)
	}
}

func wantUnpack(t *testing.T, b []byte, width, n int, want []uint64, wantErr api.Errno) {
	t.Helper()
	vs, e := bits.Unpack(b, width, n)
	if !slices.Equal(vs, want) || e != wantErr {
		t.Errorf("Unpack(%x, %d, %d) = %v, %d; want %v, %d", b, width, n, vs, e, want, wantErr)
	}
}

func wantAt(t *testing.T, b []byte, width, i int, want uint64, wantOk bool) {
	t.Helper()
	v, ok := bits.At(b, width, i)
	if v != want || ok != wantOk {
		t.Errorf("At(%x, %d, %d) = %d, %v; want %d, %v", b, width, i, v, ok, want, wantOk)
	}
}

// P1.1.
func TestWidth(t *testing.T) {
	for _, x := range []struct {
		vs    []uint64
		width int
	}{
		{nil, 0}, {[]uint64{}, 0}, {[]uint64{0}, 0}, {[]uint64{0, 0, 0}, 0},
		{[]uint64{1}, 1}, {[]uint64{0, 1}, 1}, {[]uint64{1, 0}, 1},
		{[]uint64{5, 2}, 3}, {[]uint64{2, 5}, 3}, {[]uint64{7}, 3}, {[]uint64{8}, 4},
		{[]uint64{1<<63 - 1}, 63}, {[]uint64{1 << 63}, 64}, {[]uint64{math.MaxUint64, 0}, 64},
	} {
		if width := bits.Width(x.vs...); width != x.width {
			t.Errorf("Width(%v) = %d, want %d", x.vs, width, x.width)
		}
	}
	for _, u := range edges() {
		for _, v := range []uint64{0, 1, u, u / 2, 1 << 40} {
			if width, want := bits.Width(u, v), plainWidth([]uint64{u, v}); width != want {
				t.Errorf("Width(%d, %d) = %d, want %d", u, v, width, want)
			}
		}
	}
}

// P1.1: Width knows no bound on how many numbers there are.
func TestWidthOfMany(t *testing.T) {
	vs := make([]uint64, 3*api.MaxValues)
	vs[len(vs)-1] = 9
	if width := bits.Width(vs...); width != 4 {
		t.Errorf("Width = %d, want 4", width)
	}
}

// P1.1.
func TestPackExamples(t *testing.T) {
	wantPack(t, 3, []uint64{5, 2, 7}, []byte{0xd5, 0x01}, api.OK)
	wantPack(t, 3, nil, nil, api.OK)
	wantPack(t, 0, nil, nil, api.OK)
	wantPack(t, 64, nil, nil, api.OK)
	wantPack(t, 0, []uint64{0, 0, 0}, nil, api.OK)
	wantPack(t, 1, []uint64{1, 0, 1, 1, 0, 0, 0, 0, 1}, []byte{0x0d, 0x01}, api.OK)
	wantPack(t, 8, []uint64{1, 255, 0}, []byte{1, 255, 0}, api.OK)
	wantPack(t, 12, []uint64{0xabc, 0x123}, []byte{0xbc, 0x3a, 0x12}, api.OK)
	wantPack(t, 64, []uint64{0x0807060504030201, math.MaxUint64},
		[]byte{1, 2, 3, 4, 5, 6, 7, 8, 255, 255, 255, 255, 255, 255, 255, 255}, api.OK)
}

// P1.1: at every width, against bits laid one by one.
func TestPackEveryWidth(t *testing.T) {
	rnd := rand.New(rand.NewPCG(1, 1))
	for width := range 65 {
		for n := range 20 {
			vs := numbers(rnd, width, n)
			wantPack(t, width, vs, plainPack(width, vs), api.OK)
		}
	}
}

// P1.1: just below, at and above 2 to the width.
func TestPackBounds(t *testing.T) {
	for width := range 64 {
		below := uint64(1)<<width - 1
		vs := []uint64{0, below, 0}
		wantPack(t, width, vs, plainPack(width, vs), api.OK)
		for _, v := range []uint64{below + 1, below + 2, math.MaxUint64} {
			if v > below {
				wantPack(t, width, []uint64{0, v}, nil, api.ErrBits)
				wantPack(t, width, []uint64{v, 0}, nil, api.ErrBits)
			}
		}
	}
	wantPack(t, 64, []uint64{math.MaxUint64}, bytes.Repeat([]byte{255}, 8), api.OK)
}

// P1.1, P1: what is wrong, and which error is named first.
func TestPackErrors(t *testing.T) {
	most := make([]uint64, api.MaxValues)
	over := make([]uint64, api.MaxValues+1)
	wrong := make([]uint64, api.MaxValues+1)
	wrong[0] = 8
	for _, width := range []int{math.MinInt, -64, -1, 65, 66, 128, math.MaxInt} {
		for _, vs := range [][]uint64{nil, {0}, {8}, over, wrong} {
			wantPack(t, width, vs, nil, api.ErrArg)
		}
	}
	for _, width := range []int{0, 3, 64} {
		wantPack(t, width, most, make([]byte, api.MaxValues*width/8), api.OK)
		wantPack(t, width, over, nil, api.ErrLong)
		wantPack(t, width, wrong, nil, api.ErrLong)
	}
	wantPack(t, 2, []uint64{4}, nil, api.ErrBits)
	wantPack(t, 0, []uint64{1}, nil, api.ErrBits)
	wantPack(t, 3, wrong[:api.MaxValues], nil, api.ErrBits)
}

// P1.1.
func TestUnpackExamples(t *testing.T) {
	b := []byte{0xd5, 0x01}
	wantUnpack(t, b, 3, 3, []uint64{5, 2, 7}, api.OK)
	wantUnpack(t, b, 3, 5, []uint64{5, 2, 7, 0, 0}, api.OK)
	wantUnpack(t, b, 3, 2, nil, api.ErrTrail)
	wantUnpack(t, b, 3, 6, nil, api.ErrShort)
	wantUnpack(t, []byte{0xd5}, 3, 3, nil, api.ErrShort)
	wantUnpack(t, []byte{0xd5, 0x41}, 3, 3, nil, api.ErrForm)
	wantUnpack(t, []byte{0xd5, 0x41}, 3, 2, nil, api.ErrTrail) // the first byte has bits of no number, too
	wantUnpack(t, nil, 0, 3, []uint64{0, 0, 0}, api.OK)
	wantUnpack(t, nil, 0, 0, nil, api.OK)
	wantUnpack(t, nil, 64, 0, nil, api.OK)
	wantUnpack(t, []byte{0}, 0, 3, nil, api.ErrTrail)
	wantUnpack(t, []byte{0}, 5, 0, nil, api.ErrTrail)
	wantUnpack(t, nil, 1, 1, nil, api.ErrShort)
	wantUnpack(t, bytes.Repeat([]byte{255}, 16), 64, 2, []uint64{math.MaxUint64, math.MaxUint64}, api.OK)
}

// P1.1, P1: what is wrong comes ahead of what the bytes say.
func TestUnpackErrors(t *testing.T) {
	for _, b := range [][]byte{nil, {0}, {0xd5, 0x41}} {
		for _, width := range []int{math.MinInt, -1, 65, math.MaxInt} {
			for _, n := range []int{-1, 0, 1, 3, api.MaxValues + 1} {
				wantUnpack(t, b, width, n, nil, api.ErrArg)
			}
		}
		for _, width := range []int{0, 3, 64} {
			for _, n := range []int{math.MinInt, -1, api.MaxValues + 1, math.MaxInt} {
				wantUnpack(t, b, width, n, nil, api.ErrArg)
			}
		}
	}
}

// P1.1: MaxValues numbers at every width.
func TestUnpackMost(t *testing.T) {
	rnd := rand.New(rand.NewPCG(2, 2))
	for width := range 65 {
		vs := numbers(rnd, width, api.MaxValues)
		b, e := bits.Pack(width, vs...)
		if len(b) != api.MaxValues*width/8 || e != api.OK {
			t.Fatalf("Pack(%d) = %d bytes, %d", width, len(b), e)
		}
		wantUnpack(t, b, width, api.MaxValues, vs, api.OK)
		wantUnpack(t, append(b, 0), width, api.MaxValues, nil, api.ErrTrail)
		if width > 0 {
			wantUnpack(t, b[:len(b)-1], width, api.MaxValues, nil, api.ErrShort)
		}
	}
}

// P1.1: each single bit behind the last number is told, and none that belongs to it.
func TestUnpackSpareBits(t *testing.T) {
	for width := range 65 {
		for n := range 10 {
			size := (width*n + 7) / 8
			for k := range size * 8 {
				b := make([]byte, size)
				b[k/8] = 1 << (k % 8)
				_, e := bits.Unpack(b, width, n)
				if want := k >= width*n; want != (e == api.ErrForm) || !want && e != api.OK {
					t.Errorf("Unpack of bit %d, %d, %d: error %d", k, width, n, e)
				}
			}
		}
	}
}

// P1.1, P1.2, P3: all rows of up to two bytes, at all widths: what is unpacked is packed again just so.
func TestUnpackAllShortRows(t *testing.T) {
	rows := [][]byte{{}}
	for v := range 1 << 8 {
		rows = append(rows, []byte{byte(v)})
	}
	for v := range 1 << 16 {
		if v%7 == 0 || v < 1<<9 {
			rows = append(rows, []byte{byte(v), byte(v >> 8)})
		}
	}
	for _, b := range rows {
		for width := range 18 {
			for n := range 4 {
				want, wantErr := plainUnpack(b, width, n)
				wantUnpack(t, b, width, n, want, wantErr)
				if wantErr == api.OK {
					wantPack(t, width, want, b, api.OK)
				}
			}
		}
	}
}

// P1.1, P1.2, P3: longer rows, whole ones and ones with something wrong.
func TestUnpackLongRows(t *testing.T) {
	rnd := rand.New(rand.NewPCG(3, 3))
	for width := range 65 {
		for range 60 {
			n := rnd.IntN(30)
			b := make([]byte, max(0, (width*n+7)/8+rnd.IntN(3)-1))
			for i := range b {
				b[i] = byte(rnd.Uint64())
			}
			if spare := 8 * len(b); spare > width*n && spare-8 < width*n && rnd.IntN(2) == 0 {
				b[len(b)-1] &= 1<<(8-(spare-width*n)) - 1
			}
			want, wantErr := plainUnpack(b, width, n)
			wantUnpack(t, b, width, n, want, wantErr)
			if wantErr == api.OK {
				wantPack(t, width, want, b, api.OK)
			}
		}
	}
}

// P1.2, P3: what was packed is unpacked again.
func TestPackAndBack(t *testing.T) {
	rnd := rand.New(rand.NewPCG(4, 4))
	for width := range 65 {
		for n := range 40 {
			vs := numbers(rnd, width, n)
			b, e := bits.Pack(width, vs...)
			if e != api.OK {
				t.Fatalf("Pack(%d) of %v = %d", width, vs, e)
			}
			wantUnpack(t, b, width, n, vs, api.OK)
		}
	}
	for _, v := range edges() {
		width := bits.Width(v)
		b, _ := bits.Pack(width, v, 0, v)
		wantUnpack(t, b, width, 3, []uint64{v, 0, v}, api.OK)
	}
}

// P1.1.
func TestAtExamples(t *testing.T) {
	b := []byte{0xd5, 0x01}
	wantAt(t, b, 3, 0, 5, true)
	wantAt(t, b, 3, 1, 2, true)
	wantAt(t, b, 3, 2, 7, true)
	wantAt(t, b, 3, 4, 0, true)
	wantAt(t, b, 3, 5, 0, false) // one of its bits is there
	wantAt(t, b, 3, 6, 0, false)
	wantAt(t, b, 16, 0, 0x01d5, true)
	wantAt(t, b, 16, 1, 0, false)
	wantAt(t, b, 17, 0, 0, false)
	wantAt(t, b, 3, -1, 0, false)
	wantAt(t, []byte{0xd5, 0x41}, 3, 2, 7, true) // bits behind it are no matter
	wantAt(t, []byte{0xff, 0xff}, 5, 2, 31, true)
	wantAt(t, bytes.Repeat([]byte{255}, 8), 64, 0, math.MaxUint64, true)
	wantAt(t, bytes.Repeat([]byte{255}, 8), 64, 1, 0, false)
	wantAt(t, nil, 1, 0, 0, false)
}

// P1.1, P1: wrong widths, wrong and very far places.
func TestAtBounds(t *testing.T) {
	far := []int{2, 1 << 29, 1 << 58, 1 << 59, 1 << 60, 1 << 61, 1 << 62, math.MaxInt - 1, math.MaxInt}
	for _, b := range [][]byte{nil, {}, {255}, bytes.Repeat([]byte{255}, 16)} {
		for _, width := range []int{math.MinInt, -64, -8, -1, 65, 72, 128, math.MaxInt} {
			for _, i := range append(far, -1, 0, 1) {
				wantAt(t, b, width, i, 0, false)
			}
		}
		for width := range 65 {
			for _, i := range []int{math.MinInt, -1 << 60, -8, -2, -1} {
				wantAt(t, b, width, i, 0, false)
			}
		}
		for width := 1; width <= 64; width++ {
			for _, i := range far[1:] {
				wantAt(t, b, width, i, 0, false)
			}
		}
		for _, i := range append(far, 0, 1) {
			wantAt(t, b, 0, i, 0, true)
		}
	}
}

// P1.1: every place of a row, those at its end too, read bit by bit.
func TestAtEveryPlace(t *testing.T) {
	rnd := rand.New(rand.NewPCG(5, 5))
	for size := range 27 {
		b := make([]byte, size)
		for i := range b {
			b[i] = byte(rnd.Uint64())
		}
		for width := 1; width <= 64; width++ {
			for i := range 8*size/width + 3 {
				want, ok := plainAt(b, width, i)
				wantAt(t, b, width, i, want, ok)
			}
		}
	}
}

// P1.1: At knows no bound on how many numbers a row has.
func TestAtBehindMaxValues(t *testing.T) {
	b := make([]byte, 2*api.MaxValues)
	b[len(b)-1] = 0xc0
	wantAt(t, b, 2, 8*api.MaxValues-1, 3, true)
	wantAt(t, b, 2, 8*api.MaxValues, 0, false)
}

// P1.3.
func TestAtReadsWhatUnpackReads(t *testing.T) {
	rnd := rand.New(rand.NewPCG(6, 6))
	for width := range 65 {
		for n := range 30 {
			b, _ := bits.Pack(width, numbers(rnd, width, n)...)
			vs, e := bits.Unpack(b, width, n)
			if e != api.OK {
				t.Fatalf("Unpack(%x, %d, %d) = %d", b, width, n, e)
			}
			for i, v := range vs {
				wantAt(t, b, width, i, v, true)
			}
		}
	}
}

// P1.4: the small numbers lie one behind the other, from 0 on by turns.
func TestFold(t *testing.T) {
	for u, v := range []int64{0, -1, 1, -2, 2, -3, 3, -4, 4} {
		if bits.Fold(v) != uint64(u) || bits.Unfold(uint64(u)) != v {
			t.Errorf("Fold(%d) = %d, Unfold(%d) = %d", v, bits.Fold(v), u, bits.Unfold(uint64(u)))
		}
	}
	for _, v := range signedEdges() {
		want := new(big.Int).Mul(big.NewInt(2), big.NewInt(v))
		if v < 0 {
			want.Sub(want.Neg(want), big.NewInt(1))
		}
		if u := bits.Fold(v); new(big.Int).SetUint64(u).Cmp(want) != 0 || bits.Unfold(u) != v {
			t.Errorf("Fold(%d) = %d, want %d; back %d", v, u, want, bits.Unfold(u))
		}
	}
	for _, u := range edges() {
		if v := bits.Unfold(u); bits.Fold(v) != u {
			t.Errorf("Unfold(%d) = %d, Fold of it %d", u, v, bits.Fold(v))
		}
	}
}

// P1.4.
func TestFlip(t *testing.T) {
	for _, v := range signedEdges() {
		want := new(big.Int).Add(big.NewInt(v), new(big.Int).Lsh(big.NewInt(1), 63))
		if u := bits.Flip(v); new(big.Int).SetUint64(u).Cmp(want) != 0 || bits.Unflip(u) != v {
			t.Errorf("Flip(%d) = %d, want %d; back %d", v, u, want, bits.Unflip(u))
		}
	}
	for _, u := range edges() {
		if v := bits.Unflip(u); bits.Flip(v) != u {
			t.Errorf("Unflip(%d) = %d, Flip of it %d", u, v, bits.Flip(v))
		}
	}
}

// P1.4.
func TestFlipKeepsOrder(t *testing.T) {
	vs := signedEdges()
	for _, v := range vs {
		for _, w := range vs {
			if cmp.Compare(bits.Flip(v), bits.Flip(w)) != cmp.Compare(v, w) {
				t.Errorf("Flip of %d and %d in another order", v, w)
			}
		}
	}
}

// plainNarrow adds up the lowest bytes, the highest of them with a sign.
func plainNarrow(v int64, size int) int64 {
	sum := new(big.Int)
	for k := range size {
		c := big.NewInt(v >> (8 * k) & 255)
		if k == size-1 && c.Int64() >= 128 {
			c.Sub(c, big.NewInt(256))
		}
		sum.Add(sum, c.Lsh(c, uint(8*k)))
	}
	return sum.Int64()
}

// P1.4.
func TestNarrow(t *testing.T) {
	for _, x := range []struct {
		v    int64
		size int
		low  int64
		ok   bool
	}{
		{200, 1, -56, false}, {127, 1, 127, true}, {128, 1, -128, false}, {-128, 1, -128, true}, {-129, 1, 127, false},
		{256, 1, 0, false}, {0, 1, 0, true}, {-1, 1, -1, true},
		{200, 2, 200, true}, {32767, 2, 32767, true}, {32768, 2, -32768, false}, {-32768, 2, -32768, true}, {-32769, 2, 32767, false},
		{1<<31 - 1, 4, 1<<31 - 1, true}, {1 << 31, 4, -1 << 31, false}, {-1 << 31, 4, -1 << 31, true}, {-1<<31 - 1, 4, 1<<31 - 1, false},
		{math.MaxInt64, 4, -1, false}, {math.MaxInt64, 8, math.MaxInt64, true}, {math.MinInt64, 8, math.MinInt64, true},
	} {
		if low, ok := bits.Narrow(x.v, x.size); low != x.low || ok != x.ok {
			t.Errorf("Narrow(%d, %d) = %d, %v; want %d, %v", x.v, x.size, low, ok, x.low, x.ok)
		}
	}
	for _, v := range signedEdges() {
		for _, size := range []int{1, 2, 4, 8} {
			want := plainNarrow(v, size)
			if low, ok := bits.Narrow(v, size); low != want || ok != (want == v) {
				t.Errorf("Narrow(%d, %d) = %d, %v; want %d", v, size, low, ok, want)
			}
		}
	}
}

// P1.4, P1.
func TestNarrowWrongSizes(t *testing.T) {
	for _, size := range []int{math.MinInt, -8, -1, 0, 3, 5, 6, 7, 9, 16, 32, 64, 257, math.MaxInt} {
		for _, v := range []int64{0, 1, -1, 200, math.MinInt64, math.MaxInt64} {
			if low, ok := bits.Narrow(v, size); low != 0 || ok {
				t.Errorf("Narrow(%d, %d) = %d, %v", v, size, low, ok)
			}
		}
	}
}

// P1.5: arguments stay as they are, what lies behind their length too.
func TestArgumentsStay(t *testing.T) {
	row := []byte{0xd5, 0x01, 0xee, 0xff}
	vs := []uint64{5, 2, 7, 8, 9}
	bits.Width(vs[:3]...)
	bits.Pack(3, vs[:3]...)
	bits.Pack(2, vs[:3]...)
	bits.Unpack(row[:2], 3, 3)
	bits.Unpack(row[:2], 3, 2)
	bits.Unpack(row[:2], 3, 6)
	bits.At(row[:2], 3, 2)
	bits.At(row[:2], 3, 5)
	if !bytes.Equal(row, []byte{0xd5, 0x01, 0xee, 0xff}) || !slices.Equal(vs, []uint64{5, 2, 7, 8, 9}) {
		t.Errorf("arguments became %x, %v", row, vs)
	}
}

// P1.5, P2: an answer that is written over, or an argument behind the call, is no matter to another answer.
func TestAnswersAreNew(t *testing.T) {
	vs := []uint64{5, 2, 7}
	row := []byte{0xd5, 0x01}
	p, _ := bits.Pack(3, vs...)
	q, _ := bits.Pack(3, vs...)
	u, _ := bits.Unpack(row, 3, 3)
	v, _ := bits.Unpack(row, 3, 3)
	fill(p[:cap(p)], 0xaa)
	fill(u[:cap(u)], 9)
	fill(vs, 1)
	fill(row, 0)
	if !bytes.Equal(q, []byte{0xd5, 0x01}) || !slices.Equal(v, []uint64{5, 2, 7}) {
		t.Errorf("answers became %x, %v", q, v)
	}
	wantPack(t, 3, []uint64{5, 2, 7}, []byte{0xd5, 0x01}, api.OK)
	wantUnpack(t, []byte{0xd5, 0x01}, 3, 3, []uint64{5, 2, 7}, api.OK)
}

func fill[T any](s []T, v T) {
	for i := range s {
		s[i] = v
	}
}
