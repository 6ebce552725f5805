package runs_test

import (
	"bytes"
	"math"
	"math/big"
	"math/rand/v2"
	"slices"
	"testing"

	"stoa/api"
	"stoa/runs"
)

// The helpers beneath say in the plainest way what the chapter says, without the layers below.

// plainPut divides by 128 until nothing is left.
func plainPut(u uint64) []byte {
	var b []byte
	for ; u >= 128; u /= 128 {
		b = append(b, byte(u%128)+128)
	}
	return append(b, byte(u))
}

// plainGet takes a number from the beginning of b, and answers what is left.
func plainGet(b []byte) (uint64, []byte, api.Errno) {
	u := new(big.Int)
	for i, c := range b {
		if i == 9 && c > 1 {
			return 0, nil, api.ErrWide
		}
		u.Add(u, new(big.Int).Lsh(big.NewInt(int64(c%128)), uint(7*i)))
		if c == 0 && i > 0 {
			return 0, nil, api.ErrForm
		}
		if c < 128 {
			return u.Uint64(), b[i+1:], api.OK
		}
	}
	return 0, nil, api.ErrShort
}

// plainFold: 0, -1, 1, -2, 2 and so on become 0, 1, 2, 3, 4.
func plainFold(v int64) uint64 {
	if v < 0 {
		return uint64(-(v+1))*2 + 1
	}
	return uint64(v) * 2
}

func plainUnfold(u uint64) int64 {
	if u%2 == 1 {
		return -int64(u/2) - 1
	}
	return int64(u / 2)
}

// plainSplit goes from each place at which another number begins to the next such place.
func plainSplit(vs []int64) []api.Run {
	var rs []api.Run
	for from := 0; from < len(vs); {
		to := from
		for to < len(vs) && vs[to] == vs[from] {
			to++
		}
		rs = append(rs, api.Run{Value: vs[from], Count: to - from})
		from = to
	}
	return rs
}

// plainJoin goes run by run, and counts without a bound.
func plainJoin(rs []api.Run) ([]int64, api.Errno) {
	sum := new(big.Int)
	var vs []int64
	for i, r := range rs {
		if r.Count < 1 {
			return nil, api.ErrArg
		}
		if i > 0 && rs[i-1].Value == r.Value {
			return nil, api.ErrForm
		}
		if sum.Add(sum, big.NewInt(int64(r.Count))); sum.Cmp(big.NewInt(4096)) > 0 {
			return nil, api.ErrLong
		}
		for range r.Count {
			vs = append(vs, r.Value)
		}
	}
	return vs, api.OK
}

func plainEncode(vs []int64) []byte {
	rs := plainSplit(vs)
	b := plainPut(uint64(len(rs)))
	for _, r := range rs {
		b = slices.Concat(b, plainPut(plainFold(r.Value)), plainPut(uint64(r.Count)))
	}
	return b
}

func plainDecode(b []byte) ([]int64, api.Errno) {
	many, b, e := plainGet(b)
	if e != api.OK {
		return nil, e
	}
	if many > 4096 {
		return nil, api.ErrLong
	}
	sum := new(big.Int)
	var vs []int64
	var ahead uint64
	for i := range many {
		var value, count uint64
		if value, b, e = plainGet(b); e != api.OK {
			return nil, e
		}
		if count, b, e = plainGet(b); e != api.OK {
			return nil, e
		}
		if count == 0 || i > 0 && value == ahead {
			return nil, api.ErrForm
		}
		if sum.Add(sum, new(big.Int).SetUint64(count)); sum.Cmp(big.NewInt(4096)) > 0 {
			return nil, api.ErrLong
		}
		for range count {
			vs = append(vs, plainUnfold(value))
		}
		ahead = value
	}
	if len(b) > 0 {
		return nil, api.ErrTrail
	}
	return vs, api.OK
}

// written is the bytes of so many runs, whose values and counts follow by turns.
func written(many uint64, us ...uint64) []byte {
	b := plainPut(many)
	for _, u := range us {
		b = append(b, plainPut(u)...)
	}
	return b
}

// ends are numbers at which a byte more is needed, and those at the ends of 64 bits.
func ends() []int64 {
	out := []int64{math.MinInt64, math.MinInt64 + 1, math.MaxInt64 - 1, math.MaxInt64}
	for power := range 63 {
		at := int64(1) << power
		out = append(out, at-1, at, at+1, -at, -at-1)
	}
	return out
}

// someNumbers are n numbers among which many neighbours are the same.
func someNumbers(rnd *rand.Rand, n int) []int64 {
	few := []int64{0, -1, 1, 63, 64, -64, -65, math.MinInt64, math.MaxInt64}
	vs := make([]int64, n)
	for i := range vs {
		switch {
		case i > 0 && rnd.IntN(3) > 0:
			vs[i] = vs[i-1]
		case rnd.IntN(2) > 0:
			vs[i] = few[rnd.IntN(len(few))]
		default:
			vs[i] = int64(rnd.Uint64() >> rnd.IntN(64))
		}
	}
	return vs
}

// apart are n numbers of which no two neighbours are the same.
func apart(n int) []int64 {
	vs := make([]int64, n)
	for i := range vs {
		vs[i] = int64(i)
	}
	return vs
}

func same(v int64, n int) []int64 {
	return slices.Repeat([]int64{v}, n)
}

func wantSplit(t *testing.T, vs []int64, want []api.Run, wantErr api.Errno) {
	t.Helper()
	rs, e := runs.Split(vs...)
	if !slices.Equal(rs, want) || e != wantErr {
		t.Errorf("Split of %d numbers = %v, %d; want %v, %d", len(vs), rs, e, want, wantErr)
	}
}

func wantJoin(t *testing.T, rs []api.Run, want []int64, wantErr api.Errno) {
	t.Helper()
	vs, e := runs.Join(rs...)
	if !slices.Equal(vs, want) || e != wantErr {
		t.Errorf("Join(%v) = %v, %d; want %v, %d", rs, vs, e, want, wantErr)
	}
}

func wantEncode(t *testing.T, vs []int64, want []byte, wantErr api.Errno) {
	t.Helper()
	b, e := runs.Encode(vs...)
	if !bytes.Equal(b, want) || e != wantErr {
		t.Errorf("Encode(%v) = %x, %d; want %x, %d", vs, b, e, want, wantErr)
	}
}

func wantDecode(t *testing.T, b []byte, want []int64, wantErr api.Errno) {
	t.Helper()
	vs, e := runs.Decode(b)
	if !slices.Equal(vs, want) || e != wantErr {
		t.Errorf("Decode(%x) = %v, %d; want %v, %d", b, vs, e, want, wantErr)
	}
}

// wantAll holds all four calls for the numbers against the plain readings, there and back.
func wantAll(t *testing.T, vs []int64) {
	t.Helper()
	rs := plainSplit(vs)
	b := plainEncode(vs)
	wantSplit(t, vs, rs, api.OK)
	wantJoin(t, rs, vs, api.OK)
	wantEncode(t, vs, b, api.OK)
	wantDecode(t, b, vs, api.OK)
}

// P8.1: the chapter's examples, and others worked out by hand.
func TestExamples(t *testing.T) {
	for _, x := range []struct {
		vs []int64
		rs []api.Run
		b  []byte
	}{
		{nil, nil, []byte{0x00}},
		{[]int64{0}, []api.Run{{Value: 0, Count: 1}}, []byte{0x01, 0x00, 0x01}},
		{[]int64{7, 7, -1}, []api.Run{{Value: 7, Count: 2}, {Value: -1, Count: 1}}, []byte{0x02, 0x0e, 0x02, 0x01, 0x01}},
		{[]int64{7, 7, 7, 7}, []api.Run{{Value: 7, Count: 4}}, []byte{0x01, 0x0e, 0x04}},
		{[]int64{1, 2, 1}, []api.Run{{Value: 1, Count: 1}, {Value: 2, Count: 1}, {Value: 1, Count: 1}}, []byte{0x03, 0x02, 0x01, 0x04, 0x01, 0x02, 0x01}},
		{[]int64{64, -65}, []api.Run{{Value: 64, Count: 1}, {Value: -65, Count: 1}}, []byte{0x02, 0x80, 0x01, 0x01, 0x81, 0x01, 0x01}},
		{same(0, 128), []api.Run{{Value: 0, Count: 128}}, []byte{0x01, 0x00, 0x80, 0x01}},
		{
			[]int64{math.MaxInt64, math.MinInt64},
			[]api.Run{{Value: math.MaxInt64, Count: 1}, {Value: math.MinInt64, Count: 1}},
			slices.Concat([]byte{0x02, 0xfe}, bytes.Repeat([]byte{0xff}, 8), []byte{0x01, 0x01}, bytes.Repeat([]byte{0xff}, 9), []byte{0x01, 0x01}),
		},
	} {
		wantSplit(t, x.vs, x.rs, api.OK)
		wantJoin(t, x.rs, x.vs, api.OK)
		wantEncode(t, x.vs, x.b, api.OK)
		wantDecode(t, x.b, x.vs, api.OK)
	}
	wantDecode(t, []byte{0x01, 0x0e, 0x00}, nil, api.ErrForm)
}

// P8.1: nil and empty are the same.
func TestNothing(t *testing.T) {
	wantSplit(t, []int64{}, nil, api.OK)
	wantJoin(t, []api.Run{}, nil, api.OK)
	wantEncode(t, []int64{}, []byte{0x00}, api.OK)
	wantDecode(t, nil, nil, api.ErrShort)
	wantDecode(t, []byte{}, nil, api.ErrShort)
}

// P8.1: as many numbers as may be, and one more, in one run and in as many as there are numbers.
func TestManyNumbers(t *testing.T) {
	for _, n := range []int{127, 128, 129, 4095, 4096} {
		wantAll(t, same(-3, n))
		wantAll(t, apart(n))
		wantAll(t, slices.Concat(same(9, n/2), same(-9, n-n/2)))
	}
	for _, n := range []int{4097, 4098, 1 << 17} {
		wantSplit(t, same(-3, n), nil, api.ErrLong)
		wantSplit(t, apart(n), nil, api.ErrLong)
		wantEncode(t, same(-3, n), nil, api.ErrLong)
		wantEncode(t, apart(n), nil, api.ErrLong)
	}
}

// P8.1: a count below 1.
func TestJoinCounts(t *testing.T) {
	for _, count := range []int{0, -1, -4096, math.MinInt} {
		wantJoin(t, []api.Run{{Value: 5, Count: count}}, nil, api.ErrArg)
		wantJoin(t, []api.Run{{Value: 5, Count: 1}, {Value: 6, Count: count}}, nil, api.ErrArg)
		wantJoin(t, []api.Run{{Value: 5, Count: 1}, {Value: 6, Count: count}, {Value: 7, Count: 1}}, nil, api.ErrArg)
	}
	wantJoin(t, []api.Run{{Value: 5, Count: 1}}, []int64{5}, api.OK)
}

// P8.1: the value of the run ahead of it, but not of one farther ahead; 0 behind nothing is a value like others.
func TestJoinNeighbours(t *testing.T) {
	for _, v := range ends() {
		wantJoin(t, []api.Run{{Value: v, Count: 1}, {Value: v, Count: 2}}, nil, api.ErrForm)
		wantJoin(t, []api.Run{{Value: ^v, Count: 3}, {Value: v, Count: 2}, {Value: v, Count: 1}}, nil, api.ErrForm)
		wantJoin(t, []api.Run{{Value: v, Count: 1}, {Value: ^v, Count: 1}, {Value: v, Count: 2}}, []int64{v, ^v, v, v}, api.OK)
	}
	wantJoin(t, []api.Run{{Value: 0, Count: 2}}, []int64{0, 0}, api.OK)
}

// P8.1: more numbers than may be, up to a run; counts whose sum an int can't hold.
func TestJoinLong(t *testing.T) {
	wantJoin(t, []api.Run{{Value: 5, Count: 4096}}, same(5, 4096), api.OK)
	wantJoin(t, []api.Run{{Value: 5, Count: 4095}, {Value: 6, Count: 1}}, append(same(5, 4095), 6), api.OK)
	for _, count := range []int{4097, 4098, 65536, 1 << 30, math.MaxInt - 1, math.MaxInt} {
		wantJoin(t, []api.Run{{Value: 5, Count: count}}, nil, api.ErrLong)
	}
	// Counts whose lowest 32 bits alone would be few, where an int can hold them.
	for _, count := range []uint64{1 << 32, 1<<32 + 1, 1<<40 + 4096} {
		if count <= math.MaxInt {
			wantJoin(t, []api.Run{{Value: 5, Count: int(count)}}, nil, api.ErrLong)
		}
	}
	for _, count := range []int{2, 4096, math.MaxInt - 4095, math.MaxInt - 4094, math.MaxInt} {
		wantJoin(t, []api.Run{{Value: 5, Count: 4095}, {Value: 6, Count: count}}, nil, api.ErrLong)
	}
	wantJoin(t, []api.Run{{Value: 5, Count: 4096}, {Value: 6, Count: 1}}, nil, api.ErrLong)
	var rs []api.Run
	for i := range 4096 {
		rs = append(rs, api.Run{Value: int64(i), Count: 1})
	}
	wantJoin(t, rs, apart(4096), api.OK)
	wantJoin(t, append(rs, api.Run{Value: -1, Count: 1}), nil, api.ErrLong)
}

// P1, P8.1: where several errors apply, the one named first; but a run ahead of all that stand behind it.
func TestJoinOrder(t *testing.T) {
	wantJoin(t, []api.Run{{Value: 5, Count: 1}, {Value: 5, Count: 0}}, nil, api.ErrArg)
	wantJoin(t, []api.Run{{Value: 5, Count: 4096}, {Value: 5, Count: -1}}, nil, api.ErrArg)
	wantJoin(t, []api.Run{{Value: 5, Count: 4096}, {Value: 5, Count: 1}}, nil, api.ErrForm)
	wantJoin(t, []api.Run{{Value: 5, Count: 4097}, {Value: 5, Count: 0}}, nil, api.ErrLong)
	wantJoin(t, []api.Run{{Value: 5, Count: 4097}, {Value: 5, Count: 1}}, nil, api.ErrLong)
	wantJoin(t, []api.Run{{Value: 5, Count: 1}, {Value: 5, Count: 1}, {Value: 6, Count: 0}}, nil, api.ErrForm)
	wantJoin(t, []api.Run{{Value: 5, Count: 0}, {Value: 5, Count: 4097}}, nil, api.ErrArg)
}

// P8.1: the error of each number of the bytes, wherever it stands.
func TestDecodeNumbers(t *testing.T) {
	wide := append(bytes.Repeat([]byte{0xff}, 9), 0x02)
	for _, x := range []struct {
		b []byte
		e api.Errno
	}{{nil, api.ErrShort}, {[]byte{0x80}, api.ErrShort}, {[]byte{0x80, 0x00}, api.ErrForm}, {wide, api.ErrWide}} {
		wantDecode(t, x.b, nil, x.e)
		wantDecode(t, slices.Concat([]byte{0x01}, x.b), nil, x.e)
		wantDecode(t, slices.Concat([]byte{0x01, 0x0e}, x.b), nil, x.e)
		wantDecode(t, slices.Concat([]byte{0x02, 0x0e, 0x01}, x.b), nil, x.e)
		wantDecode(t, slices.Concat([]byte{0x02, 0x0e, 0x01, 0x0c}, x.b), nil, x.e)
	}
}

// P8.1, P1: how many runs there are: looked at ahead of the runs, and no room is made for runs that aren't there.
func TestDecodeRuns(t *testing.T) {
	for _, many := range []uint64{4097, 4098, 1 << 31, 1 << 32, 1 << 63, math.MaxUint64} {
		wantDecode(t, written(many), nil, api.ErrLong)
		wantDecode(t, written(many, 14, 0), nil, api.ErrLong)
	}
	wantDecode(t, written(4096), nil, api.ErrShort)
	wantDecode(t, written(4096, 14, 0), nil, api.ErrForm)
	wantDecode(t, written(3, 14, 1, 0, 1), nil, api.ErrShort)
	wantDecode(t, written(2, 14, 1, 0, 1), []int64{7, 0}, api.OK)
	wantDecode(t, written(1, 14, 1, 0, 1), nil, api.ErrTrail)
	wantDecode(t, written(0, 14, 1, 0, 1), nil, api.ErrTrail)
	wantDecode(t, written(0, 0), nil, api.ErrTrail)
}

// P8.1: the counts of runs, and the numbers up to one.
func TestDecodeCounts(t *testing.T) {
	wantDecode(t, written(1, 14, 4096), same(7, 4096), api.OK)
	wantDecode(t, written(2, 14, 4095, 0, 1), append(same(7, 4095), 0), api.OK)
	for _, count := range []uint64{4097, 1 << 31, 1 << 32, 1<<32 + 1, 1 << 63, 1<<63 + 1, math.MaxUint64} {
		wantDecode(t, written(1, 14, count), nil, api.ErrLong)
		wantDecode(t, written(2, 14, count, 0, 1), nil, api.ErrLong)
	}
	for _, count := range []uint64{2, 4096, 1<<63 - 4095, 1<<64 - 4095, math.MaxUint64} {
		wantDecode(t, written(2, 14, 4095, 0, count), nil, api.ErrLong)
	}
	wantDecode(t, written(2, 14, 4096, 0, 1), nil, api.ErrLong)
	wantDecode(t, written(2, 14, 1, 0, 0), nil, api.ErrForm)
	wantDecode(t, written(2, 0, 1, 0, 1), nil, api.ErrForm)
	wantDecode(t, written(3, 0, 1, 2, 1, 0, 1), []int64{0, 1, 0}, api.OK)
	wantDecode(t, written(3, 0, 1, 2, 1, 2, 1), nil, api.ErrForm)
}

// P1, P8.1: where several errors apply, the one named first; but a run ahead of all that stand behind it.
func TestDecodeOrder(t *testing.T) {
	wantDecode(t, written(2, 14, 1, 14, 0), nil, api.ErrForm)
	wantDecode(t, written(2, 14, 4096, 14, 1), nil, api.ErrForm)
	wantDecode(t, written(2, 14, 4096, 14, 5000), nil, api.ErrForm)
	wantDecode(t, written(2, 14, 4096, 0, 0), nil, api.ErrForm)
	wantDecode(t, written(2, 14, 1, 14), nil, api.ErrShort)
	wantDecode(t, written(2, 14, 0), nil, api.ErrForm)
	wantDecode(t, written(2, 14, 4097), nil, api.ErrLong)
	wantDecode(t, written(2, 14, 4097, 14, 0), nil, api.ErrLong)
	wantDecode(t, written(1, 14, 0, 9), nil, api.ErrForm)
	wantDecode(t, written(1, 14, 4097, 9), nil, api.ErrLong)
	wantDecode(t, written(2, 14, 1, 14, 1, 9), nil, api.ErrForm)
}

// P8.2, P3: every beginning of what is encoded is short, and everything with a byte behind it trails.
func TestDecodeCut(t *testing.T) {
	b := plainEncode([]int64{7, 7, -1, math.MinInt64, 300, 300, 300})
	for n := range len(b) {
		wantDecode(t, b[:n], nil, api.ErrShort)
	}
	for c := range 256 {
		wantDecode(t, append(slices.Clone(b), byte(c)), nil, api.ErrTrail)
	}
}

// P8.1, P8.2: the numbers at all edges.
func TestEnds(t *testing.T) {
	for _, v := range ends() {
		wantAll(t, []int64{v})
		wantAll(t, []int64{v, v, v + 1, ^v, v})
	}
	wantAll(t, ends())
}

// P8.1, P8.2: all lists of up to seven numbers out of three.
func TestAllShortLists(t *testing.T) {
	for n := range 8 {
		vs := make([]int64, n)
		total := 1
		for range n {
			total *= 3
		}
		for k := range total {
			for i := range vs {
				vs[i] = int64(k%3) - 1
				k /= 3
			}
			wantAll(t, vs)
		}
	}
}

// P8.1, P8.2: all lists of up to four runs out of few values and counts.
func TestAllShortRuns(t *testing.T) {
	var each []api.Run
	for _, v := range []int64{0, 1} {
		for _, count := range []int{-1, 0, 1, 2, 2048, 4096, 4097} {
			each = append(each, api.Run{Value: v, Count: count})
		}
	}
	last := [][]api.Run{nil}
	for range 4 {
		var next [][]api.Run
		for _, rs := range last {
			for _, r := range each {
				next = append(next, append(slices.Clone(rs), r))
			}
		}
		for _, rs := range next {
			want, wantErr := plainJoin(rs)
			wantJoin(t, rs, want, wantErr)
			if wantErr == api.OK {
				wantSplit(t, want, rs, api.OK)
			}
		}
		last = next
	}
}

// wantOnly holds Decode against the plain reading; what is decoded is written in no other way.
func wantOnly(t *testing.T, b []byte) {
	t.Helper()
	want, wantErr := plainDecode(b)
	wantDecode(t, b, want, wantErr)
	if wantErr == api.OK {
		wantEncode(t, want, b, api.OK)
	}
}

// P8.1, P8.2, P3: all bytes of up to two, and all of up to seven from few at which something changes.
func TestAllShortBytes(t *testing.T) {
	wantOnly(t, nil)
	for c := range 256 {
		wantOnly(t, []byte{byte(c)})
		for d := range 256 {
			wantOnly(t, []byte{byte(c), byte(d)})
			wantOnly(t, []byte{1, byte(c), byte(d)})
		}
	}
	last := [][]byte{{}}
	for range 7 {
		var next [][]byte
		for _, b := range last {
			for _, c := range []byte{0x00, 0x01, 0x02, 0x03, 0x80, 0xff} {
				next = append(next, append(slices.Clone(b), c))
			}
		}
		for _, b := range next {
			wantOnly(t, b)
		}
		last = next
	}
}

// P8.1, P8.2: numbers, runs and bytes of all sorts.
func TestRandom(t *testing.T) {
	rnd := rand.New(rand.NewPCG(8, 1))
	for range 2000 {
		vs := someNumbers(rnd, rnd.IntN(40))
		wantAll(t, vs)
		b := plainEncode(vs)
		for range 10 {
			turned := slices.Clone(b)
			turned[rnd.IntN(len(b))] ^= 1 << rnd.IntN(8)
			wantOnly(t, turned)
		}
		rs := plainSplit(vs)
		for i := range rs {
			if rnd.IntN(8) == 0 {
				rs[i] = api.Run{Value: int64(rnd.IntN(3)), Count: int(rnd.Uint64() >> rnd.IntN(64))}
			}
		}
		want, wantErr := plainJoin(rs)
		wantJoin(t, rs, want, wantErr)
	}
	for range 20 {
		wantAll(t, someNumbers(rnd, 4096-rnd.IntN(3)))
	}
}

// roomy is a list with room behind it that is filled with v.
func roomy[T any](list []T, v T) []T {
	all := slices.Concat(list, slices.Repeat([]T{v}, 9))
	return all[:len(list)]
}

// P8.3: neither what is handed in is changed, nor what lies behind its length.
func TestArgumentsStay(t *testing.T) {
	vs := []int64{7, 7, -1, 0, 0}
	rs := plainSplit(vs)
	b := plainEncode(vs)
	for n := range len(vs) + 1 {
		given := roomy(vs[:n], 99)
		runs.Split(given...)
		runs.Encode(given...)
		if !slices.Equal(given[:n+9], slices.Concat(vs[:n], same(99, 9))) {
			t.Errorf("numbers changed: %v", given[:n+9])
		}
	}
	for n := range len(rs) + 1 {
		given := roomy(rs[:n], api.Run{Value: 99, Count: 99})
		runs.Join(given...)
		if !slices.Equal(given[:n+9], slices.Concat(rs[:n], slices.Repeat([]api.Run{{Value: 99, Count: 99}}, 9))) {
			t.Errorf("runs changed: %v", given[:n+9])
		}
	}
	for n := range len(b) + 1 {
		given := roomy(b[:n], 99)
		runs.Decode(given)
		if !bytes.Equal(given[:n+9], slices.Concat(b[:n], bytes.Repeat([]byte{99}, 9))) {
			t.Errorf("bytes changed: %x", given[:n+9])
		}
	}
}

// P8.3: what is answered stays, whatever is done to the arguments, to the spare room or to other answers.
func TestAnswersAreNew(t *testing.T) {
	vs := []int64{7, 7, -1}
	rs := []api.Run{{Value: 7, Count: 2}, {Value: -1, Count: 1}}
	b := []byte{0x02, 0x0e, 0x02, 0x01, 0x01}
	for range 2 {
		givenVs, givenRs, givenB := slices.Clone(vs), slices.Clone(rs), slices.Clone(b)
		split, _ := runs.Split(givenVs...)
		joined, _ := runs.Join(givenRs...)
		encoded, _ := runs.Encode(givenVs...)
		decoded, _ := runs.Decode(givenB)
		clear(givenVs)
		clear(givenRs)
		clear(givenB)
		if !slices.Equal(split, rs) || !slices.Equal(joined, vs) || !bytes.Equal(encoded, b) || !slices.Equal(decoded, vs) {
			t.Errorf("answers changed: %v, %v, %x, %v", split, joined, encoded, decoded)
		}
		clear(split[:cap(split)])
		clear(joined[:cap(joined)])
		clear(encoded[:cap(encoded)])
		clear(decoded[:cap(decoded)])
	}
}

// P2: asked again, the same.
func TestAskedAgain(t *testing.T) {
	vs := []int64{3, 3, 4}
	wantAll(t, vs)
	runs.Split(same(1, 5000)...)
	runs.Join(api.Run{Value: 3, Count: 1}, api.Run{Value: 3, Count: 1})
	runs.Decode([]byte{0x02, 0x06, 0x02, 0x06})
	wantAll(t, vs)
}
