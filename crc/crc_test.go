package crc_test

import (
	"bytes"
	"hash/crc32"
	"math"
	"math/rand/v2"
	"slices"
	"testing"

	"stoa/crc"
)

// castagnoli is the library's sum: it knows nothing of this package.
func castagnoli(b []byte) uint32 {
	return crc32.Checksum(b, crc32.MakeTable(crc32.Castagnoli))
}

// plainExtend says the chapter's words with the register's bits as a list, the lowest first.
func plainExtend(sum uint32, b []byte) uint32 {
	polynomial := plainBits(0x82F63B78)
	register := plainBits(sum)
	for i := range register {
		register[i] = !register[i]
	}
	for _, c := range b {
		for i, bit := range plainBits(uint32(c)) {
			register[i] = register[i] != bit
		}
		for range 8 {
			lowest := register[0]
			register = append(register[1:], false)
			for i := range register {
				register[i] = register[i] != (lowest && polynomial[i])
			}
		}
	}
	var out uint32
	for i, bit := range register {
		if !bit {
			out += uint32(math.Pow(2, float64(i)))
		}
	}
	return out
}

func plainBits(u uint32) []bool {
	out := make([]bool, 32)
	for i := range out {
		out[i] = u%2 == 1
		u /= 2
	}
	return out
}

// noise is n bytes without a rule, the same ones for the same seed.
func noise(seed uint64, n int) []byte {
	rnd := rand.New(rand.NewPCG(seed, uint64(n)))
	b := make([]byte, n)
	for i := range b {
		b[i] = byte(rnd.Uint32())
	}
	return b
}

// texts are some of all lengths up to 70, and some long ones.
func texts() [][]byte {
	out := [][]byte{nil, {}, []byte("a"), []byte("123456789")}
	for n := range 71 {
		out = append(out, noise(1, n), make([]byte, n), bytes.Repeat([]byte{0xff}, n))
	}
	return append(out, noise(2, 255), noise(2, 256), noise(2, 4096), noise(2, 70001), make([]byte, 65536))
}

func wantSum(t *testing.T, b []byte, want uint32) {
	t.Helper()
	if s := crc.Sum(b); s != want {
		t.Errorf("Sum of %d bytes, %.40x = %08x, want %08x", len(b), b, s, want)
	}
}

func wantSealed(t *testing.T, b []byte, want bool) {
	t.Helper()
	if crc.Sealed(b) != want {
		t.Errorf("Sealed(%.80x) = %v", b, !want)
	}
}

// P3.1: sums that are written down elsewhere.
func TestSumExamples(t *testing.T) {
	var up, down []byte
	for i := range 32 {
		up, down = append(up, byte(i)), append(down, byte(31-i))
	}
	wantSum(t, nil, 0)
	wantSum(t, []byte{}, 0)
	wantSum(t, []byte("123456789"), 0xE3069283)
	wantSum(t, []byte("a"), 0xC1D04330)
	wantSum(t, make([]byte, 32), 0x8A9136AA)
	wantSum(t, bytes.Repeat([]byte{0xff}, 32), 0x62A8AB43)
	wantSum(t, up, 0x46DD794E)
	wantSum(t, down, 0x113FDB5C)
	if crc.Sum() != 0 || crc.Sum(nil) != 0 || crc.Sum(nil, []byte{}, nil) != 0 {
		t.Error("the sum of no bytes isn't 0")
	}
}

// P3.1.
func TestSum(t *testing.T) {
	for c := range 256 {
		wantSum(t, []byte{byte(c)}, plainExtend(0, []byte{byte(c)}))
	}
	for v := range 1 << 16 {
		b := []byte{byte(v), byte(v >> 8)}
		wantSum(t, b, castagnoli(b))
	}
	for _, b := range texts() {
		wantSum(t, b, castagnoli(b))
	}
	for n := range 71 {
		wantSum(t, noise(3, n), plainExtend(0, noise(3, n)))
	}
}

// P3.1: cut anywhere, and into many parts, empty ones among them.
func TestSumOfParts(t *testing.T) {
	b := noise(4, 60)
	want := castagnoli(b)
	for i := range len(b) + 1 {
		for j := i; j <= len(b); j++ {
			if s := crc.Sum(b[:i], b[i:j], b[j:]); s != want {
				t.Errorf("cut at %d and %d: %08x", i, j, s)
			}
		}
	}
	var parts [][]byte
	for i := range b {
		parts = append(parts, nil, b[i:i+1])
	}
	if s := crc.Sum(parts...); s != want {
		t.Errorf("byte by byte: %08x", s)
	}
	if crc.Sum(b[30:], b[:30]) == want {
		t.Error("the parts' order is no matter")
	}
}

// P3.1.
func TestExtend(t *testing.T) {
	rnd := rand.New(rand.NewPCG(5, 5))
	for _, b := range texts() {
		cut := rnd.IntN(len(b) + 1)
		if s := crc.Extend(castagnoli(b[:cut]), b[cut:]); s != castagnoli(b) {
			t.Errorf("Extend of %d by %d bytes = %08x", cut, len(b)-cut, s)
		}
		if s := crc.Extend(0, b); s != castagnoli(b) {
			t.Errorf("Extend of no bytes by %d = %08x", len(b), s)
		}
	}
	sums := []uint32{0, 1, 0x80000000, 0x82F63B78, math.MaxUint32}
	for range 50 {
		sums = append(sums, rnd.Uint32())
	}
	for i, sum := range sums {
		if crc.Extend(sum, nil) != sum || crc.Extend(sum, []byte{}) != sum {
			t.Errorf("Extend(%08x) by nothing is another sum", sum)
		}
		b := noise(uint64(i), i%20)
		if s, want := crc.Extend(sum, b), plainExtend(sum, b); s != want {
			t.Errorf("Extend(%08x, %x) = %08x, want %08x", sum, b, s, want)
		}
	}
}

func wantJoin(t *testing.T, first, second uint32, n int, want uint32) {
	t.Helper()
	if s := crc.Join(first, second, n); s != want {
		t.Errorf("Join(%08x, %08x, %d) = %08x, want %08x", first, second, n, s, want)
	}
}

// P3.2: any beginning with any rest.
func TestJoin(t *testing.T) {
	all := texts()
	for i, a := range all {
		for j := i % 7; j < len(all); j += 7 {
			b := all[j]
			wantJoin(t, castagnoli(a), castagnoli(b), len(b), castagnoli(slices.Concat(a, b)))
		}
	}
	long := noise(6, 1<<20+5)
	for _, cut := range []int{0, 1, 5, 1 << 16, 1 << 19, 1 << 20, len(long)} {
		wantJoin(t, castagnoli(long[:cut]), castagnoli(long[cut:]), len(long)-cut, castagnoli(long))
	}
}

// P3.1, P3.2: of no bytes, and below, the two are added bit by bit, whatever they are.
func TestJoinOfNothing(t *testing.T) {
	rnd := rand.New(rand.NewPCG(7, 7))
	sums := []uint32{0, 1, math.MaxUint32, rnd.Uint32(), rnd.Uint32(), rnd.Uint32()}
	for _, n := range []int{0, -1, -2, -5, -1 << 31, math.MinInt + 1, math.MinInt} {
		for _, first := range sums {
			for _, second := range sums {
				wantJoin(t, first, second, n, first^second)
			}
		}
	}
}

// shiftOf is what n bytes that follow make of each bit of a sum: a table for each bit of n, made by laying the one before upon itself.
func shiftOf(sum uint32, n int) uint32 {
	var rows [32]uint32
	for i := range rows {
		// The register behind one byte 0, less what all bits 1 have to do with it.
		rows[i] = plainExtend(1<<i, []byte{0}) ^ plainExtend(0, []byte{0})
	}
	apply := func(u uint32) uint32 {
		var out uint32
		for i, bit := range plainBits(u) {
			if bit {
				out ^= rows[i]
			}
		}
		return out
	}
	for ; n > 0; n /= 2 {
		if n%2 == 1 {
			sum = apply(sum)
		}
		var next [32]uint32
		for i := range rows {
			next[i] = apply(rows[i])
		}
		rows = next
	}
	return sum
}

// P3.2, P1: lengths that nobody could count up to; sums that are any numbers.
func TestJoinOfHugeLengths(t *testing.T) {
	rnd := rand.New(rand.NewPCG(8, 8))
	ns := []int{1, 2, 3, 1<<31 - 1, 1 << 31, 1 << 32, 1 << 62, math.MaxInt - 1, math.MaxInt}
	for range 40 {
		ns = append(ns, int(rnd.Uint64()>>(1+rnd.IntN(62))))
	}
	for _, n := range ns {
		first, second := rnd.Uint32(), rnd.Uint32()
		wantJoin(t, first, second, n, shiftOf(first, n)^second)
		wantJoin(t, 0, second, n, second)
		wantJoin(t, 1, second, n, shiftOf(1, n)^second)
	}
}

// P3.2: three are joined in either order.
func TestJoinOfThree(t *testing.T) {
	for i := range 200 {
		a, b, c := noise(9, i), noise(10, i/3), noise(11, i%50)
		left := crc.Join(crc.Join(crc.Sum(a), crc.Sum(b), len(b)), crc.Sum(c), len(c))
		right := crc.Join(crc.Sum(a), crc.Join(crc.Sum(b), crc.Sum(c), len(c)), len(b)+len(c))
		if want := crc.Sum(a, b, c); left != want || right != want {
			t.Errorf("%d: %08x, %08x, want %08x", i, left, right, want)
		}
	}
}

// P3.1.
func TestSealExamples(t *testing.T) {
	for _, x := range []struct{ b, sealed []byte }{
		{nil, []byte{0, 0, 0, 0}},
		{[]byte{}, []byte{0, 0, 0, 0}},
		{[]byte("123456789"), append([]byte("123456789"), 0x83, 0x92, 0x06, 0xE3)},
		{[]byte("a"), []byte{'a', 0x30, 0x43, 0xD0, 0xC1}},
	} {
		if s := crc.Seal(x.b); !bytes.Equal(s, x.sealed) {
			t.Errorf("Seal(%x) = %x, want %x", x.b, s, x.sealed)
		}
		wantSealed(t, x.sealed, true)
	}
}

// P3.1, P3: what is sealed is the bytes and their sum, and no other four bytes.
func TestSealAndSealed(t *testing.T) {
	for _, b := range texts() {
		sum := castagnoli(b)
		want := append(slices.Clone(b), byte(sum%256), byte(sum/256%256), byte(sum/65536%256), byte(sum/16777216))
		s := crc.Seal(b)
		if !bytes.Equal(s, want) {
			t.Errorf("Seal of %d bytes, %.40x, is %.60x", len(b), b, s)
		}
		wantSealed(t, want, true)
		wantSealed(t, want[:len(want)-1], false)
		for i := len(b); i < len(want); i++ {
			want[i]++
			wantSealed(t, want, false)
			want[i]--
		}
	}
}

// P3.1: fewer than four bytes, and four.
func TestSealedShort(t *testing.T) {
	wantSealed(t, nil, false)
	wantSealed(t, []byte{}, false)
	for n := range 4 {
		wantSealed(t, make([]byte, n), false)
		wantSealed(t, make([]byte, n, 8), false) // what lies behind the length isn't there
	}
	wantSealed(t, make([]byte, 4), true)
	for bit := range 32 {
		b := make([]byte, 4)
		b[bit/8] = 1 << (bit % 8)
		wantSealed(t, b, false)
	}
	wantSealed(t, []byte{0x30, 0x43, 0xD0, 0xC1}, false)
	wantSealed(t, []byte{0xC1, 0xD0, 0x43, 0x30, 'a'}, false)
	wantSealed(t, []byte{'a', 0xC1, 0xD0, 0x43, 0x30}, false)
}

// P3.1: Sealed answers what the library's sum says, of bytes sealed and not.
func TestSealedOfAnyBytes(t *testing.T) {
	for n := 4; n < 200; n++ {
		b := noise(12, n)
		sum := castagnoli(b[:n-4])
		is := bytes.Equal(b[n-4:], []byte{byte(sum), byte(sum >> 8), byte(sum >> 16), byte(sum >> 24)})
		wantSealed(t, b, is)
	}
}

// turn turns the bits of a pattern from bit at on, and tells whether they all lie in b.
func turn(b []byte, at int, pattern uint64) bool {
	for i := range 64 {
		if pattern>>i&1 == 0 {
			continue
		}
		if at+i >= 8*len(b) {
			return false
		}
		b[(at+i)/8] ^= 1 << ((at + i) % 8)
	}
	return true
}

func wantTold(t *testing.T, sealed []byte, at int, pattern uint64) {
	t.Helper()
	b := slices.Clone(sealed)
	if turn(b, at, pattern) && crc.Sealed(b) {
		t.Errorf("%.40x: bits %b turned from bit %d on, and still sealed", sealed, pattern, at)
	}
}

// P3.3: all runs of up to 10 bits, everywhere.
func TestShortRunsAreTold(t *testing.T) {
	for _, n := range []int{0, 1, 2, 5, 9} {
		sealed := crc.Seal(noise(13, n))
		for at := range 8 * len(sealed) {
			for pattern := range uint64(1) << 9 {
				wantTold(t, sealed, at, pattern<<1|1)
			}
		}
	}
}

// P3.3: runs of every length up to 32 bits, everywhere: all bits of the run, its ends alone, and some between.
func TestLongRunsAreTold(t *testing.T) {
	rnd := rand.New(rand.NewPCG(14, 14))
	for _, n := range []int{0, 1, 3, 4, 40} {
		sealed := crc.Seal(noise(14, n))
		for at := range 8 * len(sealed) {
			for length := 1; length <= 32; length++ {
				all := uint64(1)<<length - 1
				ends := uint64(1)<<(length-1) | 1
				wantTold(t, sealed, at, all)
				wantTold(t, sealed, at, ends)
				for range 20 {
					wantTold(t, sealed, at, rnd.Uint64()&all|ends)
				}
			}
		}
	}
}

// P3.3: in a long text too.
func TestRunsAreToldInLongTexts(t *testing.T) {
	rnd := rand.New(rand.NewPCG(15, 15))
	sealed := crc.Seal(noise(15, 5000))
	for range 3000 {
		length := 1 + rnd.IntN(32)
		all := uint64(1)<<length - 1
		wantTold(t, sealed, rnd.IntN(8*len(sealed)-31), rnd.Uint64()&all|1)
	}
}

// P3.4.
func TestSumsAddUp(t *testing.T) {
	for n := range 300 {
		a, b, c := noise(16, n), noise(17, n), noise(18, n)
		x := make([]byte, n)
		for i := range x {
			x[i] = a[i] ^ b[i] ^ c[i]
		}
		if s := crc.Sum(x); s != crc.Sum(a)^crc.Sum(b)^crc.Sum(c) {
			t.Errorf("%d bytes: %08x", n, s)
		}
	}
}

// P3.5: arguments stay as they are, what lies behind their length too.
func TestArgumentsStay(t *testing.T) {
	b := []byte{1, 2, 3, 4, 5, 6, 7, 8}
	parts := [][]byte{b[:2], b[2:4], b[4:6]}
	crc.Sum(parts[:2]...)
	crc.Sum(b[:3])
	crc.Extend(7, b[:3])
	crc.Seal(b[:3])
	crc.Seal(b[:0])
	crc.Sealed(b[:6])
	crc.Sealed(b[:3])
	if !bytes.Equal(b, []byte{1, 2, 3, 4, 5, 6, 7, 8}) {
		t.Errorf("the argument became %x", b)
	}
	if len(parts) != 3 || !bytes.Equal(slices.Concat(parts...), b[:6]) {
		t.Errorf("the parts became %x", parts)
	}
}

// P3.5, P2: an answer that is written over, or an argument behind the call, is no matter to another answer.
func TestAnswersAreNew(t *testing.T) {
	in := make([]byte, 9, 32)
	copy(in, "123456789")
	s, u := crc.Seal(in), crc.Seal(in)
	empty := crc.Seal(in[:0])
	for i := range s[:cap(s)] {
		s[:cap(s)][i] = 0xaa
	}
	clear(in[:cap(in)])
	want := append([]byte("123456789"), 0x83, 0x92, 0x06, 0xE3)
	if !bytes.Equal(u, want) || !bytes.Equal(crc.Seal([]byte("123456789")), want) || !bytes.Equal(empty, make([]byte, 4)) {
		t.Errorf("answers became %x, %x", u, empty)
	}
	for i := range u[:cap(u)] {
		u[:cap(u)][i] = 0xbb
	}
	if !bytes.Equal(in[:cap(in)], make([]byte, 32)) {
		t.Errorf("the argument became %x", in[:cap(in)])
	}
}
