package vint_test

import (
	"bytes"
	"math"
	"math/big"
	"math/rand/v2"
	"slices"
	"testing"

	"stoa/api"
	"stoa/vint"
)

// plainPut divides by 128 until nothing is left.
func plainPut(u uint64) []byte {
	var b []byte
	for ; u >= 128; u /= 128 {
		b = append(b, byte(u%128)+128)
	}
	return append(b, byte(u))
}

// plainGet says in the plainest way what the chapter says, in numbers without a bound.
func plainGet(b []byte, at int) (uint64, int, api.Errno) {
	if at < 0 || at > len(b) {
		return 0, 0, api.ErrArg
	}
	end := at
	for {
		if end == len(b) {
			return 0, 0, api.ErrShort
		}
		if end-at == 9 && b[end] > 1 {
			return 0, 0, api.ErrWide
		}
		end++
		if b[end-1] < 128 {
			break
		}
	}
	if b[end-1] == 0 && end-at > 1 {
		return 0, 0, api.ErrForm
	}
	u := new(big.Int)
	for i := end - 1; i >= at; i-- {
		u.Add(u.Mul(u, big.NewInt(128)), big.NewInt(int64(b[i]%128)))
	}
	return u.Uint64(), end, api.OK
}

// plainGetList is GetList said with plainGet.
func plainGetList(b []byte, at, most int) ([]uint64, int, api.Errno) {
	count, at, e := plainGet(b, at)
	switch {
	case e != api.OK:
		return nil, 0, e
	case most < 0 && count > 0 || most >= 0 && count > uint64(most):
		return nil, 0, api.ErrLong
	}
	var us []uint64
	for uint64(len(us)) < count {
		u, next, e := plainGet(b, at)
		if e != api.OK {
			return nil, 0, e
		}
		us, at = append(us, u), next
	}
	return us, at, api.OK
}

// edges are the numbers just below, at and just above 2 to each power: those where a byte more is needed are among them.
func edges() []uint64 {
	out := []uint64{0, math.MaxUint64 - 1, math.MaxUint64}
	for power := range 64 {
		at := uint64(1) << power
		out = append(out, at-1, at, at+1)
	}
	return out
}

// tricky are strings of up to n bytes, of those bytes at which something changes.
func tricky(n int) [][]byte {
	out := [][]byte{{}}
	last := out
	for range n {
		var next [][]byte
		for _, b := range last {
			for _, c := range []byte{0x00, 0x01, 0x02, 0x7f, 0x80, 0x81, 0xff} {
				next = append(next, append(slices.Clone(b), c))
			}
		}
		out = append(out, next...)
		last = next
	}
	return out
}

func wantGet(t *testing.T, b []byte, at int, want uint64, wantNext int, wantErr api.Errno) {
	t.Helper()
	u, next, e := vint.Get(b, at)
	if u != want || next != wantNext || e != wantErr {
		t.Errorf("Get(%x, %d) = %d, %d, %d; want %d, %d, %d", b, at, u, next, e, want, wantNext, wantErr)
	}
}

func wantGetList(t *testing.T, b []byte, at, most int, want []uint64, wantNext int, wantErr api.Errno) {
	t.Helper()
	us, next, e := vint.GetList(b, at, most)
	if !slices.Equal(us, want) || next != wantNext || e != wantErr {
		t.Errorf("GetList(%x, %d, %d) = %v, %d, %d; want %v, %d, %d", b, at, most, us, next, e, want, wantNext, wantErr)
	}
}

// P2.1.
func TestPutExamples(t *testing.T) {
	for _, x := range []struct {
		u uint64
		b []byte
	}{
		{0, []byte{0x00}}, {1, []byte{0x01}}, {127, []byte{0x7f}},
		{128, []byte{0x80, 0x01}}, {129, []byte{0x81, 0x01}}, {300, []byte{0xac, 0x02}}, {16383, []byte{0xff, 0x7f}},
		{16384, []byte{0x80, 0x80, 0x01}},
		{1<<63 - 1, []byte{0xff, 0xff, 0xff, 0xff, 0xff, 0xff, 0xff, 0xff, 0x7f}},
		{1 << 63, []byte{0x80, 0x80, 0x80, 0x80, 0x80, 0x80, 0x80, 0x80, 0x80, 0x01}},
		{math.MaxUint64, []byte{0xff, 0xff, 0xff, 0xff, 0xff, 0xff, 0xff, 0xff, 0xff, 0x01}},
	} {
		if b := vint.Put(x.u); !bytes.Equal(b, x.b) || vint.Size(x.u) != len(x.b) {
			t.Errorf("Put(%d) = %x, Size %d; want %x", x.u, b, vint.Size(x.u), x.b)
		}
		wantGet(t, x.b, 0, x.u, len(x.b), api.OK)
	}
}

// P2.1, P2.2, P3: the numbers at all edges and the small ones, put, counted and got again wherever they stand.
func TestPutAndBack(t *testing.T) {
	us := edges()
	for u := range uint64(1 << 15) {
		us = append(us, u)
	}
	for _, u := range us {
		b := vint.Put(u)
		if !bytes.Equal(b, plainPut(u)) || vint.Size(u) != len(b) {
			t.Errorf("Put(%d) = %x, Size %d", u, b, vint.Size(u))
		}
		wantGet(t, b, 0, u, len(b), api.OK)
		wantGet(t, slices.Concat([]byte{0x80, 0xff}, b, []byte{0x80}), 2, u, 2+len(b), api.OK)
		wantGet(t, b[:len(b)-1], 0, 0, 0, api.ErrShort)
	}
}

// P2.3.
func TestSizeRises(t *testing.T) {
	us := edges()
	slices.Sort(us)
	for i := range len(us) - 1 {
		if vint.Size(us[i]) > vint.Size(us[i+1]) || len(vint.Put(us[i])) > len(vint.Put(us[i+1])) {
			t.Errorf("%d has more bytes than %d", us[i], us[i+1])
		}
	}
	for size := 1; size < 10; size++ {
		at := uint64(1) << (7 * size)
		if vint.Size(at-1) != size || vint.Size(at) != size+1 {
			t.Errorf("Size(%d) = %d, Size(%d) = %d", at-1, vint.Size(at-1), at, vint.Size(at))
		}
	}
}

// P2.1, P1: places below 0, at the end and behind it, ahead of what the bytes say.
func TestGetPlaces(t *testing.T) {
	b := []byte{0xac, 0x02, 0x07}
	wantGet(t, b, 0, 300, 2, api.OK)
	wantGet(t, b, 1, 2, 2, api.OK)
	wantGet(t, b, 2, 7, 3, api.OK)
	wantGet(t, b, 3, 0, 0, api.ErrShort)
	for _, at := range []int{math.MinInt, -1, 4, 5, math.MaxInt} {
		wantGet(t, b, at, 0, 0, api.ErrArg)
		wantGetList(t, b, at, 9, nil, 0, api.ErrArg)
		wantGetList(t, b, at, -1, nil, 0, api.ErrArg)
	}
	wantGet(t, nil, 0, 0, 0, api.ErrShort)
	wantGet(t, nil, 1, 0, 0, api.ErrArg)
	wantGet(t, nil, -1, 0, 0, api.ErrArg)
	wantGet(t, b[:2], 3, 0, 0, api.ErrArg) // what lies behind the length isn't there
	wantGet(t, b[:1], 0, 0, 0, api.ErrShort)
}

// P2.1: longer forms of a number.
func TestGetForms(t *testing.T) {
	wantGet(t, []byte{0x00}, 0, 0, 1, api.OK)
	wantGet(t, []byte{0x00, 0x00}, 0, 0, 1, api.OK)
	wantGet(t, []byte{0x80, 0x00}, 0, 0, 0, api.ErrForm)
	wantGet(t, []byte{0xac, 0x82, 0x00}, 0, 0, 0, api.ErrForm)
	wantGet(t, []byte{0x80}, 0, 0, 0, api.ErrShort)
	wantGet(t, []byte{0x05, 0x80, 0x00}, 1, 0, 0, api.ErrForm)
	wantGet(t, []byte{0x05, 0x00}, 1, 0, 2, api.OK)
}

// P2.1: nine bytes, and all tenth bytes behind them.
func TestGetTenthByte(t *testing.T) {
	for _, fill := range []byte{0x80, 0xff, 0x81} {
		b := bytes.Repeat([]byte{fill}, 9)
		wantGet(t, b, 0, 0, 0, api.ErrShort)
		wantGet(t, append(slices.Clone(b), 0), 0, 0, 0, api.ErrForm)
		one, _, _ := plainGet(append(slices.Clone(b), 1), 0)
		wantGet(t, append(slices.Clone(b), 1), 0, one, 10, api.OK)
		for c := 2; c < 256; c++ {
			wantGet(t, append(slices.Clone(b), byte(c)), 0, 0, 0, api.ErrWide)
			wantGet(t, append(slices.Clone(b), byte(c), 0), 0, 0, 0, api.ErrWide)
			wantGet(t, slices.Concat([]byte{7}, b, []byte{byte(c)}), 1, 0, 0, api.ErrWide)
		}
		b[8] = 0
		wantGet(t, b, 0, 0, 0, api.ErrForm)
		b[8] = 1
		ninth, _, _ := plainGet(b, 0)
		wantGet(t, b, 0, ninth, 9, api.OK)
	}
	wantGet(t, bytes.Repeat([]byte{0xff}, 1000), 0, 0, 0, api.ErrWide)
}

// got asks Get, and holds against each other what was got and what is put for it.
func got(t *testing.T, b []byte, at int) {
	t.Helper()
	want, wantNext, wantErr := plainGet(b, at)
	wantGet(t, b, at, want, wantNext, wantErr)
	if wantErr == api.OK && !bytes.Equal(vint.Put(want), b[at:wantNext]) {
		t.Errorf("Get(%x, %d) = %d, but Put of it is %x", b, at, want, vint.Put(want))
	}
}

// P2.1, P2.2, P3: all strings of two bytes and tricky ones of more: what is got is written so, and in no other way.
func TestGetAllShort(t *testing.T) {
	for v := range 1 << 16 {
		got(t, []byte{byte(v), byte(v >> 8)}, 0)
	}
	for _, b := range tricky(5) {
		for at := -1; at <= len(b)+1; at++ {
			got(t, b, at)
		}
	}
	for _, tail := range tricky(3) {
		for n := 7; n <= 10; n++ {
			got(t, append(bytes.Repeat([]byte{0x80}, n), tail...), 0)
			got(t, append(bytes.Repeat([]byte{0xff}, n), tail...), 0)
		}
	}
}

// P2.1.
func TestListExamples(t *testing.T) {
	b := []byte{0x02, 0x01, 0xac, 0x02}
	if p := vint.PutList(1, 300); !bytes.Equal(p, b) {
		t.Errorf("PutList(1, 300) = %x", p)
	}
	if p := vint.PutList(); !bytes.Equal(p, []byte{0}) {
		t.Errorf("PutList() = %x", p)
	}
	wantGetList(t, b, 0, 2, []uint64{1, 300}, 4, api.OK)
	wantGetList(t, b, 0, 3, []uint64{1, 300}, 4, api.OK)
	wantGetList(t, b, 0, math.MaxInt, []uint64{1, 300}, 4, api.OK)
	wantGetList(t, b, 0, 1, nil, 0, api.ErrLong)
	wantGetList(t, b, 1, 1, []uint64{300}, 4, api.OK)
	wantGetList(t, b, 3, 2, nil, 0, api.ErrShort)
	wantGetList(t, b, 4, 2, nil, 0, api.ErrShort)
	wantGetList(t, nil, 0, 2, nil, 0, api.ErrShort)
}

// P2.1: a bound of 0, and below.
func TestListBounds(t *testing.T) {
	for _, most := range []int{math.MinInt, -2, -1, 0} {
		wantGetList(t, []byte{0x00}, 0, most, nil, 1, api.OK)
		wantGetList(t, []byte{0x07, 0x00, 0x07}, 1, most, nil, 2, api.OK)
		wantGetList(t, []byte{0x01, 0x05}, 0, most, nil, 0, api.ErrLong)
		wantGetList(t, vint.Put(math.MaxUint64), 0, most, nil, 0, api.ErrLong)
	}
	wantGetList(t, []byte{0x01, 0x05}, 0, 1, []uint64{5}, 2, api.OK)
}

// P2.1, P1: which error is named first.
func TestListErrors(t *testing.T) {
	wantGetList(t, []byte{0x80}, 0, -1, nil, 0, api.ErrShort)
	wantGetList(t, []byte{0x81, 0x00}, 0, -1, nil, 0, api.ErrForm)
	wantGetList(t, append(bytes.Repeat([]byte{0xff}, 9), 2), 0, -1, nil, 0, api.ErrWide)
	wantGetList(t, []byte{0x02, 0x80, 0x00}, 0, 1, nil, 0, api.ErrLong)
	wantGetList(t, []byte{0x02}, 0, 1, nil, 0, api.ErrLong)
	wantGetList(t, []byte{0x02, 0x80, 0x00}, 0, 2, nil, 0, api.ErrForm)
	wantGetList(t, []byte{0x02, 0x05, 0x80}, 0, 2, nil, 0, api.ErrShort)
	wantGetList(t, []byte{0x02, 0x05}, 0, 2, nil, 0, api.ErrShort)
	wide := append(bytes.Repeat([]byte{0x80}, 9), 2)
	wantGetList(t, slices.Concat([]byte{2}, wide, []byte{0x80, 0x00}), 0, 2, nil, 0, api.ErrWide)
	wantGetList(t, slices.Concat([]byte{2, 0x80, 0x00}, wide), 0, 2, nil, 0, api.ErrForm)
}

// P1: a count that says far more than there is ends, and takes no room for what isn't there.
func TestListOfHugeCount(t *testing.T) {
	for _, count := range []uint64{1 << 31, 1 << 40, 1 << 62, math.MaxInt} {
		b := append(vint.Put(count), 1, 2, 3)
		wantGetList(t, b, 0, math.MaxInt, nil, 0, api.ErrShort)
		wantGetList(t, append(b, 0x80, 0x00), 0, math.MaxInt, nil, 0, api.ErrForm)
	}
	for _, count := range []uint64{math.MaxInt + 1, math.MaxUint64} {
		wantGetList(t, append(vint.Put(count), 1, 2, 3), 0, math.MaxInt, nil, 0, api.ErrLong)
	}
}

// P2.1, P2.2, P3: lists put and got again wherever they stand.
func TestListAndBack(t *testing.T) {
	rnd := rand.New(rand.NewPCG(1, 1))
	for n := range 300 {
		us := make([]uint64, n)
		want := plainPut(uint64(n))
		for i := range us {
			us[i] = rnd.Uint64() >> rnd.IntN(64)
			want = append(want, plainPut(us[i])...)
		}
		b := vint.PutList(us...)
		if !bytes.Equal(b, want) {
			t.Errorf("PutList(%v) = %x, want %x", us, b, want)
		}
		wantGetList(t, b, 0, n, us, len(b), api.OK)
		wantGetList(t, slices.Concat([]byte{0xff}, b, []byte{0x80}), 1, n, us, 1+len(b), api.OK)
		wantGetList(t, b[:len(b)-1], 0, n, nil, 0, api.ErrShort)
		if n > 0 {
			wantGetList(t, b, 0, n-1, nil, 0, api.ErrLong)
		}
	}
}

// P2.1, P2.2, P3: what is got as a list is the only way to write it.
func TestGetListAllTricky(t *testing.T) {
	for _, b := range tricky(5) {
		for _, most := range []int{-1, 0, 1, 2, 127} {
			for at := range 2 {
				want, wantNext, wantErr := plainGetList(b, at, most)
				wantGetList(t, b, at, most, want, wantNext, wantErr)
				if wantErr == api.OK && !bytes.Equal(vint.PutList(want...), b[at:wantNext]) {
					t.Errorf("GetList(%x, %d) = %v, but PutList of it is %x", b, at, want, vint.PutList(want...))
				}
			}
		}
	}
}

// P2.4: arguments stay as they are, what lies behind their length too.
func TestArgumentsStay(t *testing.T) {
	us := []uint64{1, 300, 5, 6}
	b := []byte{0x02, 0x01, 0xac, 0x02, 0xee, 0xff}
	vint.PutList(us[:2]...)
	vint.Get(b[:4], 2)
	vint.Get(b[:3], 2)
	vint.GetList(b[:4], 0, 2)
	vint.GetList(b[:3], 0, 2)
	vint.GetList(b[:4], 0, 1)
	if !slices.Equal(us, []uint64{1, 300, 5, 6}) || !bytes.Equal(b, []byte{0x02, 0x01, 0xac, 0x02, 0xee, 0xff}) {
		t.Errorf("arguments became %v, %x", us, b)
	}
}

// P2.4, P2: an answer that is written over, or an argument behind the call, is no matter to another answer.
func TestAnswersAreNew(t *testing.T) {
	us := []uint64{1, 300}
	in := []byte{0x02, 0x01, 0xac, 0x02}
	p, q := vint.Put(300), vint.Put(300)
	l, m := vint.PutList(us...), vint.PutList(us...)
	u, _, _ := vint.GetList(in, 0, 2)
	v, _, _ := vint.GetList(in, 0, 2)
	fill(p[:cap(p)], 0xaa)
	fill(l[:cap(l)], 0xaa)
	fill(u[:cap(u)], 9)
	fill(us, 7)
	fill(in, 0)
	if !bytes.Equal(q, []byte{0xac, 0x02}) || !bytes.Equal(m, []byte{0x02, 0x01, 0xac, 0x02}) || !slices.Equal(v, []uint64{1, 300}) {
		t.Errorf("answers became %x, %x, %v", q, m, v)
	}
	if !bytes.Equal(vint.Put(300), q) || !bytes.Equal(vint.PutList(1, 300), m) {
		t.Error("a later answer is another one")
	}
}

func fill[T any](s []T, v T) {
	for i := range s {
		s[i] = v
	}
}
