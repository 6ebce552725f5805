package frame_test

import (
	"bytes"
	"hash/crc32"
	"math"
	"math/rand/v2"
	"slices"
	"testing"

	"stoa/api"
	"stoa/frame"
)

// sealed is the bytes and their sum, by the library's own.
func sealed(b []byte) []byte {
	sum := crc32.Checksum(b, crc32.MakeTable(crc32.Castagnoli))
	return append(slices.Clone(b), byte(sum), byte(sum>>8), byte(sum>>16), byte(sum>>24))
}

// head is any head, under a right sum.
func head(kind byte, n uint32) []byte {
	return sealed([]byte{kind, byte(n), byte(n >> 8), byte(n >> 16), byte(n >> 24)})
}

// plain is any frame, under right sums.
func plain(kind byte, body []byte) []byte {
	return append(head(kind, uint32(len(body))), sealed(body)...)
}

func isSealed(b []byte) bool {
	return bytes.Equal(sealed(b[:len(b)-4]), b)
}

// plainGet says the chapter's errors one behind the other.
func plainGet(b []byte, at int) (api.Frame, int, api.Errno) {
	fail := func(e api.Errno) (api.Frame, int, api.Errno) { return api.Frame{}, 0, e }
	if at < 0 || at > len(b) {
		return fail(api.ErrArg)
	}
	here := b[at:]
	if len(here) < 9 {
		return fail(api.ErrShort)
	}
	if !isSealed(here[:9]) {
		return fail(api.ErrCrc)
	}
	if here[0] == 0 {
		return fail(api.ErrForm)
	}
	n := int64(here[1]) + 256*(int64(here[2])+256*(int64(here[3])+256*int64(here[4])))
	if n > 65536 {
		return fail(api.ErrLong)
	}
	if int64(len(here)) < 13+n {
		return fail(api.ErrShort)
	}
	if !isSealed(here[9 : 13+n]) {
		return fail(api.ErrCrc)
	}
	return api.Frame{Kind: int(here[0]), Body: here[9 : 9+n]}, at + 13 + int(n), api.OK
}

// plainScan goes on with plainGet as far as it goes.
func plainScan(b []byte) ([]api.Frame, int, api.Errno) {
	f, next, e := plainGet(b, 0)
	if len(b) == 0 {
		return nil, 0, api.OK
	}
	if e != api.OK {
		return nil, 0, e
	}
	fs, end, e := plainScan(b[next:])
	return append([]api.Frame{f}, fs...), next + end, e
}

func same(f, g api.Frame) bool {
	return f.Kind == g.Kind && bytes.Equal(f.Body, g.Body)
}

// noise is n bytes without a rule, the same ones for the same seed.
func noise(seed uint64, n int) []byte {
	rnd := rand.New(rand.NewPCG(seed, uint64(n)))
	b := make([]byte, n)
	for i := range b {
		b[i] = byte(rnd.Uint32())
	}
	return b
}

func wantPut(t *testing.T, kind int, body, want []byte, wantErr api.Errno) {
	t.Helper()
	b, e := frame.Put(kind, body)
	if !bytes.Equal(b, want) || e != wantErr || e != api.OK && b != nil {
		t.Errorf("Put(%d, %d bytes) = %.40x (%d bytes), %d; want %.40x (%d bytes), %d", kind, len(body), b, len(b), e, want, len(want), wantErr)
	}
}

func wantGet(t *testing.T, b []byte, at int, want api.Frame, wantNext int, wantErr api.Errno) {
	t.Helper()
	f, next, e := frame.Get(b, at)
	if !same(f, want) || next != wantNext || e != wantErr || e != api.OK && f.Body != nil {
		t.Errorf("Get(%.60x (%d bytes), %d) = %d, %.40x, %d, %d; want %d, %.40x, %d, %d", b, len(b), at, f.Kind, f.Body, next, e, want.Kind, want.Body, wantNext, wantErr)
	}
}

func wantNoGet(t *testing.T, b []byte, at int, wantErr api.Errno) {
	t.Helper()
	wantGet(t, b, at, api.Frame{}, 0, wantErr)
}

func wantScan(t *testing.T, b []byte, want []api.Frame, wantEnd int, wantErr api.Errno) {
	t.Helper()
	fs, end, e := frame.Scan(b)
	if !slices.EqualFunc(fs, want, same) || end != wantEnd || e != wantErr {
		t.Errorf("Scan(%.60x (%d bytes)) = %d frames, %d, %d; want %d frames, %d, %d", b, len(b), len(fs), end, e, len(want), wantEnd, wantErr)
	}
}

// P4.1.
func TestSize(t *testing.T) {
	for n := range 65537 {
		if s := frame.Size(n); s != n+13 {
			t.Errorf("Size(%d) = %d", n, s)
		}
	}
	for _, n := range []int{math.MinInt, math.MinInt + 1, -65536, -14, -13, -1, 65537, 65538, 1 << 31, 1 << 32, math.MaxInt - 13, math.MaxInt} {
		if s := frame.Size(n); s != 0 {
			t.Errorf("Size(%d) = %d", n, s)
		}
	}
}

// P4.1, P4.2: a frame byte by byte, as the chapter says it.
func TestExamples(t *testing.T) {
	b := []byte{0x01, 0x01, 0x00, 0x00, 0x00, 0x21, 0xb3, 0x26, 0xa0, 0x61, 0x30, 0x43, 0xd0, 0xc1}
	if !bytes.Equal(b, plain(1, []byte("a"))) {
		t.Fatalf("the frame of the test is %x", plain(1, []byte("a")))
	}
	wantPut(t, 1, []byte("a"), b, api.OK)
	wantGet(t, b, 0, api.Frame{Kind: 1, Body: []byte("a")}, 14, api.OK)
	wantNoGet(t, b[:13], 0, api.ErrShort)
	wantPut(t, 0, []byte("a"), nil, api.ErrArg)
	none := append(head(7, 0), 0, 0, 0, 0)
	wantPut(t, 7, nil, none, api.OK)
	wantPut(t, 7, []byte{}, none, api.OK)
	wantGet(t, none, 0, api.Frame{Kind: 7}, 13, api.OK)
}

// P4.1, P4.2, P3: all kinds, with bodies around each place where another byte of the length is needed.
func TestPutAndBack(t *testing.T) {
	for kind := 1; kind <= 255; kind++ {
		body := noise(1, kind%40)
		b := plain(byte(kind), body)
		wantPut(t, kind, body, b, api.OK)
		wantGet(t, b, 0, api.Frame{Kind: kind, Body: body}, len(b), api.OK)
	}
	for _, n := range []int{0, 1, 2, 3, 4, 5, 8, 9, 12, 13, 14, 127, 128, 254, 255, 256, 257, 511, 512, 4095, 65000, 65534, 65535, 65536} {
		body := noise(2, n)
		b := plain(200, body)
		wantPut(t, 200, body, b, api.OK)
		wantGet(t, b, 0, api.Frame{Kind: 200, Body: body}, n+13, api.OK)
		wantGet(t, slices.Concat(b[:5], b, b[:3]), 5, api.Frame{Kind: 200, Body: body}, 5+n+13, api.OK)
		wantNoGet(t, b[:len(b)-1], 0, api.ErrShort)
	}
}

// P4.1, P1: which of Put's errors is named first.
func TestPutErrors(t *testing.T) {
	long := make([]byte, 65537)
	for _, kind := range []int{math.MinInt, -256, -255, -1, 0, 256, 257, 511, 512, 1 << 32, 1<<32 + 1, math.MaxInt} {
		wantPut(t, kind, []byte("a"), nil, api.ErrArg)
		wantPut(t, kind, nil, nil, api.ErrArg)
		wantPut(t, kind, long, nil, api.ErrArg)
	}
	for _, kind := range []int{1, 2, 255} {
		wantPut(t, kind, long, nil, api.ErrLong)
		wantPut(t, kind, make([]byte, 1<<20), nil, api.ErrLong)
		wantPut(t, kind, long[:65536], plain(byte(kind), long[:65536]), api.OK)
	}
}

// P4.1, P1: places below 0, at the end and behind it, ahead of what the bytes say.
func TestGetPlaces(t *testing.T) {
	b := plain(3, []byte("abc"))
	for _, at := range []int{math.MinInt, -14, -1, len(b) + 1, len(b) + 2, math.MaxInt - 8, math.MaxInt} {
		wantNoGet(t, b, at, api.ErrArg)
		wantNoGet(t, nil, at, api.ErrArg)
		wantNoGet(t, noise(3, len(b)), at, api.ErrArg)
	}
	wantNoGet(t, nil, 0, api.ErrShort)
	wantNoGet(t, nil, 1, api.ErrArg)
	wantNoGet(t, b, len(b), api.ErrShort)
	wantNoGet(t, b[:4], len(b), api.ErrArg) // what lies behind the length isn't there
	wantNoGet(t, b[:10], 0, api.ErrShort)
	twice := slices.Concat(b, plain(4, nil))
	wantGet(t, twice, 0, api.Frame{Kind: 3, Body: []byte("abc")}, 16, api.OK)
	wantGet(t, twice, 16, api.Frame{Kind: 4}, 29, api.OK)
	for at := 1; at < 16; at++ {
		wantNoGet(t, twice, at, api.ErrCrc)
	}
	for at := 21; at <= 29; at++ {
		wantNoGet(t, twice, at, api.ErrShort)
	}
}

// P4.1: each beginning of a frame.
func TestGetOfBeginnings(t *testing.T) {
	for _, n := range []int{0, 1, 30} {
		b := plain(9, noise(4, n))
		for cut := range b {
			wantNoGet(t, b[:cut], 0, api.ErrShort)
			wantNoGet(t, slices.Concat([]byte{9, 9}, b[:cut]), 2, api.ErrShort)
		}
	}
}

// P4.1, P1: which of Get's errors is named first.
func TestGetErrors(t *testing.T) {
	wrong := func(b []byte, at int) []byte {
		b = slices.Clone(b)
		b[at]++
		return b
	}
	body := sealed([]byte("ab"))
	// A wrong sum of the head is ahead of all that the head says.
	for at := range 9 {
		wantNoGet(t, append(wrong(head(1, 2), at), body...), 0, api.ErrCrc)
		wantNoGet(t, wrong(head(1, 2), at), 0, api.ErrCrc)
		wantNoGet(t, wrong(head(1, 2), at)[:8], 0, api.ErrShort)
		wantNoGet(t, wrong(head(0, 65537), at), 0, api.ErrCrc)
	}
	wantNoGet(t, make([]byte, 9), 0, api.ErrCrc)
	wantNoGet(t, make([]byte, 8), 0, api.ErrShort)
	// Kind 0 is ahead of the length, and of what is behind the head.
	wantNoGet(t, append(head(0, 2), body...), 0, api.ErrForm)
	wantNoGet(t, append(head(0, 0), 0, 0, 0, 0), 0, api.ErrForm)
	for _, n := range []uint32{0, 2, 65536, 65537, math.MaxUint32} {
		wantNoGet(t, head(0, n), 0, api.ErrForm)
		wantNoGet(t, append(head(0, n), wrong(body, 0)...), 0, api.ErrForm)
	}
	// A length above the bound is ahead of a body that isn't there.
	for _, n := range []uint32{65537, 65538, 1 << 17, 1 << 24, 1<<24 + 2, 1<<31 - 1, 1 << 31, 1<<31 + 2, math.MaxUint32 - 12, math.MaxUint32 - 3, math.MaxUint32} {
		wantNoGet(t, head(1, n), 0, api.ErrLong)
		wantNoGet(t, append(head(1, n), body...), 0, api.ErrLong)
		wantNoGet(t, append(head(255, n), make([]byte, 70000)...), 0, api.ErrLong)
	}
	long := noise(5, 65537)
	wantNoGet(t, plain(1, long), 0, api.ErrLong)
	// A body that isn't all there is ahead of its sum.
	wantNoGet(t, head(1, 65536), 0, api.ErrShort)
	wantNoGet(t, append(head(1, 65536), make([]byte, 65539)...), 0, api.ErrShort)
	wantNoGet(t, append(head(1, 3), body...), 0, api.ErrShort)
	wantNoGet(t, append(head(1, 2), wrong(body, 0)[:5]...), 0, api.ErrShort)
	for at := range body {
		wantNoGet(t, append(head(1, 2), wrong(body, at)...), 0, api.ErrCrc)
	}
	wantNoGet(t, append(head(1, 1), body...), 0, api.ErrCrc)
	wantGet(t, append(head(1, 2), body...), 0, api.Frame{Kind: 1, Body: []byte("ab")}, 15, api.OK)
}

// P4.1, P4.2, P3: frames of any head and body, with a byte changed here and there: as the plain reading has it, and what is got is written so.
func TestGetOfAnyBytes(t *testing.T) {
	rnd := rand.New(rand.NewPCG(6, 6))
	got := 0
	for range 20000 {
		body := noise(rnd.Uint64(), rnd.IntN(6))
		b := append(head(byte(rnd.IntN(3)), uint32(rnd.IntN(6))), sealed(body)...)
		switch rnd.IntN(6) {
		case 0:
			b[rnd.IntN(len(b))] ^= byte(rnd.Uint32())
		case 1:
			b = b[:rnd.IntN(len(b)+1)]
		}
		at := rnd.IntN(3)
		b = append(noise(rnd.Uint64(), at), b...)
		want, wantNext, wantErr := plainGet(b, at)
		wantGet(t, b, at, want, wantNext, wantErr)
		if wantErr == api.OK {
			got++
			wantPut(t, want.Kind, want.Body, b[at:wantNext], api.OK)
		}
	}
	if got == 0 {
		t.Error("no frame was got")
	}
}

// P4.3: all runs of up to 8 bits, and runs of every length up to 32, everywhere: in the head, in the body, in both.
func TestTurnedRuns(t *testing.T) {
	rnd := rand.New(rand.NewPCG(7, 7))
	for _, n := range []int{0, 1, 4, 11} {
		b := plain(byte(1+n), noise(7, n))
		for at := range 8 * len(b) {
			for pattern := range uint64(1) << 7 {
				wantTold(t, b, at, pattern<<1|1)
			}
			for length := 9; length <= 32; length++ {
				all := uint64(1)<<length - 1
				ends := uint64(1)<<(length-1) | 1
				for _, pattern := range []uint64{all, ends, rnd.Uint64()&all | ends, rnd.Uint64()&all | ends} {
					wantTold(t, b, at, pattern)
				}
			}
		}
	}
}

// wantTold turns the bits of a pattern from bit at on, if all of them lie in the frame, and has more bytes follow, so that a length that has grown finds some.
func wantTold(t *testing.T, b []byte, at int, pattern uint64) {
	t.Helper()
	turned := append(slices.Clone(b), make([]byte, 300)...)
	for i := range 64 {
		if pattern>>i&1 == 0 {
			continue
		}
		if at+i >= 8*len(b) {
			return
		}
		turned[(at+i)/8] ^= 1 << ((at + i) % 8)
	}
	wantNoGet(t, turned, 0, api.ErrCrc)
	wantNoGet(t, turned[:len(b)], 0, api.ErrCrc)
	wantScan(t, turned, nil, 0, api.ErrCrc)
}

// some are frames of unlike kinds and lengths, and their bytes, and where each one ends.
func some(seed uint64, n int) ([]api.Frame, []byte, []int) {
	rnd := rand.New(rand.NewPCG(seed, uint64(n)))
	var fs []api.Frame
	var b []byte
	var ends []int
	for i := range n {
		f := api.Frame{Kind: 1 + rnd.IntN(255), Body: noise(seed+uint64(i), rnd.IntN(12))}
		fs = append(fs, f)
		b = append(b, plain(byte(f.Kind), f.Body)...)
		ends = append(ends, len(b))
	}
	return fs, b, ends
}

// P4.1, P4.4.
func TestScan(t *testing.T) {
	wantScan(t, nil, nil, 0, api.OK)
	wantScan(t, []byte{}, nil, 0, api.OK)
	a, c := plain(1, []byte("a")), plain(255, nil)
	wantScan(t, a, []api.Frame{{Kind: 1, Body: []byte("a")}}, 14, api.OK)
	wantScan(t, slices.Concat(a, c, a), []api.Frame{{Kind: 1, Body: []byte("a")}, {Kind: 255}, {Kind: 1, Body: []byte("a")}}, 41, api.OK)
	for n := range 30 {
		fs, b, _ := some(8, n)
		wantScan(t, b, fs, len(b), api.OK)
	}
	long := plain(2, noise(8, 65536))
	wantScan(t, slices.Concat(long, long), []api.Frame{{Kind: 2, Body: noise(8, 65536)}, {Kind: 2, Body: noise(8, 65536)}}, 2*len(long), api.OK)
}

// P4.4: cut anywhere, the whole frames are found, and ErrShort unless the bytes end there.
func TestScanOfBeginnings(t *testing.T) {
	fs, b, ends := some(9, 12)
	for cut := range len(b) + 1 {
		whole := 0
		for whole < len(ends) && ends[whole] <= cut {
			whole++
		}
		end, wantErr := 0, api.ErrShort
		if whole > 0 {
			end = ends[whole-1]
		}
		if end == cut {
			wantErr = api.OK
		}
		wantScan(t, b[:cut], fs[:whole], end, wantErr)
	}
}

// P4.1: each of Get's errors behind whole frames, and whole frames behind the error, which aren't told.
func TestScanErrors(t *testing.T) {
	for n := range 4 {
		fs, b, _ := some(10, n)
		for _, x := range []struct {
			rest []byte
			err  api.Errno
		}{
			{[]byte{0}, api.ErrShort},
			{make([]byte, 8), api.ErrShort},
			{make([]byte, 9), api.ErrCrc},
			{make([]byte, 400), api.ErrCrc},
			{append(head(0, 0), 0, 0, 0, 0), api.ErrForm},
			{head(1, 65537), api.ErrLong},
			{head(1, 1), api.ErrShort},
			{append(head(1, 1), 'a', 0, 0, 0, 0), api.ErrCrc},
			{append(head(1, 0), 'a', 0, 0, 0), api.ErrCrc},
		} {
			wantScan(t, append(slices.Clone(b), x.rest...), fs, len(b), x.err)
			if x.err != api.ErrShort {
				wantScan(t, slices.Concat(b, x.rest, b), fs, len(b), x.err)
			}
		}
	}
}

// P4.1, P4.2, P3: frames with a byte changed somewhere: as the plain reading has it; what was got is written so.
func TestScanOfAnyBytes(t *testing.T) {
	rnd := rand.New(rand.NewPCG(11, 11))
	for i := range 3000 {
		_, b, _ := some(uint64(i), 1+rnd.IntN(6))
		b[rnd.IntN(len(b))] ^= byte(rnd.Uint32()) & byte(rnd.Uint32())
		want, wantEnd, wantErr := plainScan(b)
		wantScan(t, b, want, wantEnd, wantErr)
		var again []byte
		for _, f := range want {
			p, _ := frame.Put(f.Kind, f.Body)
			again = append(again, p...)
		}
		if !bytes.Equal(again, b[:wantEnd]) {
			t.Errorf("Scan(%x) tells frames that are put as %x", b, again)
		}
	}
}

// P4.5: arguments stay as they are, what lies behind their length too.
func TestArgumentsStay(t *testing.T) {
	body := []byte{1, 2, 3, 4, 5, 6, 7, 8}
	frame.Put(1, body[:3])
	frame.Put(1, body[:0])
	frame.Put(0, body[:3])
	if !bytes.Equal(body, []byte{1, 2, 3, 4, 5, 6, 7, 8}) {
		t.Errorf("the body became %x", body)
	}
	_, b, ends := some(12, 3)
	before := slices.Clone(b)
	for at := range len(b) + 1 {
		frame.Get(b, at)
		frame.Get(b[:ends[1]], at)
		frame.Scan(b[:at])
	}
	if !bytes.Equal(b, before) {
		t.Errorf("the bytes became %x", b)
	}
}

// fill writes over a list, and over its spare room.
func fill(b []byte, c byte) {
	b = b[:cap(b)]
	for i := range b {
		b[i] = c
	}
}

// P4.5, P2: an answer that is written over, or an argument behind the call, is no matter to another answer.
func TestAnswersAreNew(t *testing.T) {
	want := plain(1, []byte("abc"))
	body := make([]byte, 3, 64)
	copy(body, "abc")
	p, _ := frame.Put(1, body)
	q, _ := frame.Put(1, body)
	fill(p, 0xaa)
	fill(body, 0)
	if !bytes.Equal(q, want) {
		t.Errorf("the frame became %x", q)
	}
	fill(q, 0xbb)
	if !bytes.Equal(body[:64], make([]byte, 64)) {
		t.Errorf("the body became %x", body[:64])
	}
	b := append(slices.Clone(want), want...)
	f, _, _ := frame.Get(b, 0)
	g, _, _ := frame.Get(b, 0)
	fill(f.Body, 0xcc)
	if !bytes.Equal(b, append(slices.Clone(want), want...)) {
		t.Errorf("the bytes became %x", b)
	}
	fill(b, 0)
	if string(g.Body) != "abc" {
		t.Errorf("the answer became %x", g.Body)
	}
}

// P4.5: the frames of one answer share nothing, and have nothing of the bytes.
func TestScannedFramesAreNew(t *testing.T) {
	fs, b, _ := some(13, 9)
	before := slices.Clone(b)
	got, _, _ := frame.Scan(b)
	other, _, _ := frame.Scan(b)
	for i := range got {
		fill(got[i].Body, 0xdd)
		for j := i + 1; j < len(got); j++ {
			if !same(got[j], fs[j]) {
				t.Errorf("frame %d, written over, changed frame %d", i, j)
			}
		}
	}
	if !bytes.Equal(b, before) {
		t.Errorf("the bytes became %x", b)
	}
	fill(b, 0)
	if !slices.EqualFunc(other, fs, same) {
		t.Error("another answer has changed")
	}
}
