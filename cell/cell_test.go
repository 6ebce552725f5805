package cell_test

import (
	"bytes"
	"math"
	"math/big"
	"math/rand/v2"
	"slices"
	"testing"

	"stoa/api"
	"stoa/cell"
	"stoa/vint"
)

// The helpers beneath say in the plainest way what the chapter says.

var kinds = []int{api.KI8, api.KI16, api.KI32, api.KI64, api.KU16, api.KBool, api.KStr, api.KBytes}

// noKinds are such that are a kind in their lowest bits, too.
var noKinds = []int{math.MinInt, math.MinInt + 1, -256 + 7, -8, -1, 0, 9, 10, 15, 16, 17, 255, 256, 257, 263, 1<<32 + 1, 1<<32 + 7, math.MaxInt}

// spans are the least and the greatest number of each kind of numbers.
var spans = map[int][2]int64{
	api.KI8:   {-128, 127},
	api.KI16:  {-32768, 32767},
	api.KI32:  {-2147483648, 2147483647},
	api.KI64:  {-9223372036854775808, 9223372036854775807},
	api.KU16:  {0, 65535},
	api.KBool: {0, 1},
}

func number(v int64) api.Cell {
	return api.Cell{Int: v}
}

func text(s string) api.Cell {
	return api.Cell{B: []byte(s)}
}

func null() api.Cell {
	return api.Cell{Null: true}
}

// same takes a list that is nil for an empty one.
func same(a, b api.Cell) bool {
	return a.Null == b.Null && a.Int == b.Int && bytes.Equal(a.B, b.B)
}

func plainCheck(kind int, null bool, c api.Cell) api.Errno {
	span, isNumber := spans[kind]
	switch {
	case kind < 1 || kind > 8:
		return api.ErrArg
	case c.Null && !null:
		return api.ErrNull
	case c.Null && (c.Int != 0 || len(c.B) != 0):
		return api.ErrKind
	case c.Null:
		return api.OK
	case isNumber && len(c.B) != 0:
		return api.ErrKind
	case isNumber && (c.Int < span[0] || c.Int > span[1]):
		return api.ErrRange
	case isNumber:
		return api.OK
	case c.Int != 0:
		return api.ErrKind
	case len(c.B) > 200:
		return api.ErrLong
	case kind == api.KStr && slices.Contains(c.B, 0):
		return api.ErrForm
	}
	return api.OK
}

// plainPut folds in numbers without a bound, for a cell that is right.
func plainPut(kind int, c api.Cell) []byte {
	if c.Null {
		return []byte{0}
	}
	if _, isNumber := spans[kind]; !isNumber {
		return slices.Concat([]byte{1}, plainVint(big.NewInt(int64(len(c.B)))), c.B)
	}
	u := new(big.Int).Mul(big.NewInt(c.Int), big.NewInt(2))
	if c.Int < 0 {
		u.Sub(u.Neg(u), big.NewInt(1))
	}
	return append([]byte{1}, plainVint(u)...)
}

func plainVint(u *big.Int) []byte {
	var b []byte
	for u.BitLen() > 7 {
		b = append(b, byte(u.Uint64()%128)+128)
		u = new(big.Int).Rsh(u, 7)
	}
	return append(b, byte(u.Uint64()))
}

func plainGet(kind int, b []byte, at int) (api.Cell, int, api.Errno) {
	switch {
	case kind < 1 || kind > 8 || at < 0 || at > len(b):
		return api.Cell{}, 0, api.ErrArg
	case len(b[at:]) == 0:
		return api.Cell{}, 0, api.ErrShort
	case b[at] == 0:
		return null(), at + 1, api.OK
	case b[at] != 1:
		return api.Cell{}, 0, api.ErrForm
	}
	u, next, e := vint.Get(b, at+1)
	if e != api.OK {
		return api.Cell{}, 0, e
	}
	if span, isNumber := spans[kind]; isNumber {
		v := new(big.Int).SetUint64(u)
		if u%2 == 1 {
			v.Add(v, big.NewInt(1)).Neg(v)
		}
		v.Quo(v, big.NewInt(2))
		if v.Cmp(big.NewInt(span[0])) < 0 || v.Cmp(big.NewInt(span[1])) > 0 {
			return api.Cell{}, 0, api.ErrRange
		}
		return number(v.Int64()), next, api.OK
	}
	c := api.Cell{}
	switch {
	case u > 200:
		return c, 0, api.ErrLong
	case u > uint64(len(b[next:])):
		return c, 0, api.ErrShort
	}
	end := next + int(u)
	if kind == api.KStr && slices.Contains(b[next:end], 0) {
		return c, 0, api.ErrForm
	}
	return text(string(b[next:end])), end, api.OK
}

// edges are the numbers around 0, around each power of 2, and their opposites.
func edges() []int64 {
	out := []int64{0, math.MinInt64, math.MinInt64 + 1, math.MaxInt64}
	for power := range 63 {
		at := int64(1) << power
		out = append(out, at-1, at, at+1, 1-at, -at, -1-at)
	}
	slices.Sort(out)
	return slices.Compact(out)
}

// texts are right for KBytes, by their order; those without a 0 for KStr, too.
func texts() [][]byte {
	full := bytes.Repeat([]byte{0xff}, 200)
	zeros := make([]byte, 200)
	return [][]byte{
		nil, {0}, {0, 0}, zeros, {0, 1}, {0, 0xff}, {1}, {1, 0}, {1, 1}, {1, 0xff}, {2},
		[]byte("a"), []byte("a\x00"), []byte("a\x00a"), []byte("a\x01"), []byte("aa"), []byte("ab"), []byte("b"), []byte("ba"),
		{0x7f}, {0x7f, 0xff}, {0x80}, {0x80, 0x80}, {0xc3, 0xa4}, {0xff}, {0xff, 0}, {0xff, 1}, full[:199], full,
	}
}

// ascending are the right cells of a kind that the tests take, each once, from the first to the last.
func ascending(kind int) []api.Cell {
	out := []api.Cell{null()}
	span, isNumber := spans[kind]
	for _, v := range edges() {
		if isNumber && v >= span[0] && v <= span[1] {
			out = append(out, number(v))
		}
	}
	for _, b := range texts() {
		if !isNumber && (kind == api.KBytes || !slices.Contains(b, 0)) {
			out = append(out, api.Cell{B: b})
		}
	}
	return out
}

// mixed are cells of every sort, right and wrong, to be held against every kind.
func mixed() []api.Cell {
	var out []api.Cell
	long := bytes.Repeat([]byte("x"), 201)
	zeros := make([]byte, 201)
	for _, b := range [][]byte{nil, {}, {0}, {1}, []byte("ab"), []byte("a\x00"), []byte("\x00a"), long[:200], zeros[:200], long, zeros, make([]byte, 70000)} {
		for _, v := range edges() {
			out = append(out, api.Cell{Int: v, B: b}, api.Cell{Null: true, Int: v, B: b})
		}
	}
	return out
}

// fill writes over a list, and over its spare room.
func fill(b []byte, c byte) {
	b = b[:cap(b)]
	for i := range b {
		b[i] = c
	}
}

func wantCompare(t *testing.T, kind int, a, b api.Cell, want int, wantErr api.Errno) {
	t.Helper()
	if k, e := cell.Compare(kind, a, b); k != want || e != wantErr {
		t.Errorf("Compare(%d, %v, %v) = %d, %d; want %d, %d", kind, a, b, k, e, want, wantErr)
	}
}

func wantPut(t *testing.T, kind int, c api.Cell, want []byte, wantErr api.Errno) {
	t.Helper()
	if b, e := cell.Put(kind, c); !bytes.Equal(b, want) || e != wantErr {
		t.Errorf("Put(%d, %v) = %x, %d; want %x, %d", kind, c, b, e, want, wantErr)
	}
}

func wantGet(t *testing.T, kind int, b []byte, at int, want api.Cell, wantNext int, wantErr api.Errno) {
	t.Helper()
	if c, next, e := cell.Get(kind, b, at); !same(c, want) || next != wantNext || e != wantErr {
		t.Errorf("Get(%d, %x, %d) = %v, %d, %d; want %v, %d, %d", kind, b, at, c, next, e, want, wantNext, wantErr)
	}
}

func wantNoGet(t *testing.T, kind int, b []byte, at int, wantErr api.Errno) {
	t.Helper()
	wantGet(t, kind, b, at, api.Cell{}, 0, wantErr)
}

// P5.1.
func TestNumber(t *testing.T) {
	for _, kind := range kinds {
		if ok := cell.Number(kind); ok != (kind <= api.KBool) {
			t.Errorf("Number(%d) = %v", kind, ok)
		}
	}
	for _, kind := range noKinds {
		if cell.Number(kind) {
			t.Errorf("Number(%d)", kind)
		}
	}
}

// P5.1: the least and the greatest number of each kind, and those behind them.
func TestCheckOfSpans(t *testing.T) {
	for kind, span := range spans {
		for _, v := range span {
			if e := cell.Check(kind, false, number(v)); e != api.OK {
				t.Errorf("Check(%d, %d) = %d", kind, v, e)
			}
		}
		if kind == api.KI64 {
			continue
		}
		for _, v := range []int64{span[0] - 1, span[1] + 1, span[0] - 1<<32, span[1] + 1<<32, math.MinInt64, math.MaxInt64} {
			if e := cell.Check(kind, true, number(v)); e != api.ErrRange {
				t.Errorf("Check(%d, %d) = %d", kind, v, e)
			}
		}
	}
}

// P5.1: each error, and which one is named first.
func TestCheckErrors(t *testing.T) {
	long := bytes.Repeat([]byte("x"), 201)
	for _, x := range []struct {
		kind int
		null bool
		c    api.Cell
		e    api.Errno
	}{
		{0, false, api.Cell{Null: true, Int: 1, B: long}, api.ErrArg},
		{9, true, null(), api.ErrArg},
		{api.KI8, true, null(), api.OK},
		{api.KStr, true, null(), api.OK},
		{api.KI8, false, null(), api.ErrNull},
		{api.KI8, false, api.Cell{Null: true, Int: 1}, api.ErrNull},
		{api.KStr, false, api.Cell{Null: true, B: long}, api.ErrNull},
		{api.KI8, true, api.Cell{Null: true, Int: 1}, api.ErrKind},
		{api.KI8, true, api.Cell{Null: true, Int: 128}, api.ErrKind},
		{api.KI8, true, api.Cell{Null: true, B: []byte("a")}, api.ErrKind},
		{api.KStr, true, api.Cell{Null: true, Int: 1}, api.ErrKind},
		{api.KStr, true, api.Cell{Null: true, B: long}, api.ErrKind},
		{api.KStr, true, api.Cell{Null: true, B: []byte{0}}, api.ErrKind},
		{api.KBytes, true, api.Cell{Null: true, B: []byte{}}, api.OK},
		{api.KI8, false, api.Cell{Int: 128, B: []byte("a")}, api.ErrKind},
		{api.KI64, false, api.Cell{B: []byte{0}}, api.ErrKind},
		{api.KBool, false, number(-1), api.ErrRange},
		{api.KBool, false, number(2), api.ErrRange},
		{api.KU16, false, number(-1), api.ErrRange},
		{api.KU16, false, number(65536), api.ErrRange},
		{api.KI32, false, api.Cell{Int: 5, B: []byte{}}, api.OK},
		{api.KStr, false, api.Cell{Int: 1, B: long}, api.ErrKind},
		{api.KBytes, false, api.Cell{Int: -1}, api.ErrKind},
		{api.KStr, false, api.Cell{B: make([]byte, 201)}, api.ErrLong},
		{api.KBytes, false, api.Cell{B: long}, api.ErrLong},
		{api.KStr, false, api.Cell{B: make([]byte, 200)}, api.ErrForm},
		{api.KBytes, false, api.Cell{B: make([]byte, 200)}, api.OK},
		{api.KStr, false, api.Cell{B: long[:200]}, api.OK},
		{api.KStr, false, api.Cell{}, api.OK},
		{api.KBytes, false, api.Cell{}, api.OK},
	} {
		if e := cell.Check(x.kind, x.null, x.c); e != x.e {
			t.Errorf("Check(%d, %v, %v) = %d; want %d", x.kind, x.null, x.c, e, x.e)
		}
	}
}

// P5.1, P1: all sorts of cells at all kinds.
func TestCheckOfAnyCell(t *testing.T) {
	for _, kind := range slices.Concat(kinds, noKinds) {
		for _, c := range mixed() {
			for _, null := range []bool{false, true} {
				if e, want := cell.Check(kind, null, c), plainCheck(kind, null, c); e != want {
					t.Errorf("Check(%d, %v, %v) = %d; want %d", kind, null, c, e, want)
				}
			}
		}
	}
}

// P5.1: each byte at each place of a text.
func TestCheckOfEachByte(t *testing.T) {
	for n := 1; n <= 200; n += 19 {
		for c := range 256 {
			for at := 0; at < n; at += 1 + n/7 {
				b := bytes.Repeat([]byte("x"), n)
				b[at] = byte(c)
				want := api.OK
				if c == 0 {
					want = api.ErrForm
				}
				if e := cell.Check(api.KStr, false, api.Cell{B: b}); e != want {
					t.Errorf("Check of a text of %d bytes with %x at %d = %d", n, c, at, e)
				}
				if e := cell.Check(api.KBytes, false, api.Cell{B: b}); e != api.OK {
					t.Errorf("Check of %d bytes with %x at %d = %d", n, c, at, e)
				}
			}
		}
	}
}

// P5.1: what lies behind a list's length is no part of it.
func TestCheckOfSpareRoom(t *testing.T) {
	room := []byte("ab\x00c")
	for _, x := range []struct {
		kind int
		c    api.Cell
	}{{api.KI8, api.Cell{B: room[:0]}}, {api.KStr, api.Cell{B: room[:2]}}, {api.KI8, api.Cell{Null: true, B: room[:0]}}} {
		if e := cell.Check(x.kind, true, x.c); e != api.OK {
			t.Errorf("Check(%d, %v) = %d", x.kind, x.c, e)
		}
	}
}

// P5.1, P5.4: each two cells of a kind.
func TestCompareOrder(t *testing.T) {
	for _, kind := range kinds {
		cells := ascending(kind)
		for i, a := range cells {
			for j, b := range cells {
				want := 0
				if i < j {
					want = -1
				} else if i > j {
					want = 1
				}
				wantCompare(t, kind, a, b, want, api.OK)
			}
		}
	}
}

// P5.1: a list that is nil and one that is empty are the same.
func TestCompareOfEmptyLists(t *testing.T) {
	for _, kind := range kinds {
		wantCompare(t, kind, api.Cell{}, api.Cell{B: []byte{}}, 0, api.OK)
		wantCompare(t, kind, api.Cell{Null: true, B: []byte{}}, null(), 0, api.OK)
		wantCompare(t, kind, null(), api.Cell{}, -1, api.OK)
		wantCompare(t, kind, api.Cell{B: []byte{}}, null(), 1, api.OK)
	}
}

// P5.1, P1: the kind's error, then the first cell's, then the second one's.
func TestCompareErrors(t *testing.T) {
	long := api.Cell{B: bytes.Repeat([]byte("x"), 201)}
	wantCompare(t, api.KI8, number(128), text("a"), 0, api.ErrRange)
	wantCompare(t, api.KI8, text("a"), number(128), 0, api.ErrKind)
	wantCompare(t, api.KI8, null(), number(128), 0, api.ErrRange)
	wantCompare(t, api.KStr, long, text("\x00"), 0, api.ErrLong)
	wantCompare(t, api.KStr, text("\x00"), long, 0, api.ErrForm)
	wantCompare(t, api.KStr, text("a"), long, 0, api.ErrLong)
	wantCompare(t, api.KBool, number(2), number(2), 0, api.ErrRange)
	wantCompare(t, 9, null(), null(), 0, api.ErrArg)
	cells := append(mixed(), null(), number(1), text("a"))
	rnd := rand.New(rand.NewPCG(5, 1))
	for range 20000 {
		kind := slices.Concat(kinds, kinds, noKinds)[rnd.IntN(16+len(noKinds))]
		a, b := cells[rnd.IntN(len(cells))], cells[rnd.IntN(len(cells))]
		want := plainCheck(kind, true, a)
		if want == api.OK {
			want = plainCheck(kind, true, b)
		}
		if k, e := cell.Compare(kind, a, b); e != want || e != api.OK && k != 0 {
			t.Errorf("Compare(%d, %v, %v) = %d, %d; want %d", kind, a, b, k, e, want)
		}
	}
}

// anyOf is some right cell of a kind; short texts and small numbers, so that equal ones come.
func anyOf(rnd *rand.Rand, kind int) api.Cell {
	span, isNumber := spans[kind]
	switch {
	case rnd.IntN(8) == 0:
		return null()
	case !isNumber:
		b := make([]byte, rnd.IntN(4))
		for i := range b {
			b[i] = []byte{0, 1, 'a', 0x80, 0xff}[rnd.IntN(5)]
			if kind == api.KStr && b[i] == 0 {
				b[i] = 2
			}
		}
		return api.Cell{B: b}
	case rnd.IntN(2) == 0:
		return number(min(max(int64(rnd.IntN(7))-3, span[0]), span[1]))
	}
	return number(min(max(int64(rnd.Uint64())>>rnd.IntN(64), span[0]), span[1]))
}

// P5.4.
func TestCompareIsAnOrder(t *testing.T) {
	rnd := rand.New(rand.NewPCG(5, 2))
	compare := func(kind int, a, b api.Cell) int {
		k, e := cell.Compare(kind, a, b)
		if e != api.OK || k < -1 || k > 1 {
			t.Errorf("Compare(%d, %v, %v) = %d, %d", kind, a, b, k, e)
		}
		return k
	}
	for range 40000 {
		kind := kinds[rnd.IntN(len(kinds))]
		a, b, c := anyOf(rnd, kind), anyOf(rnd, kind), anyOf(rnd, kind)
		ab, bc, ac := compare(kind, a, b), compare(kind, b, c), compare(kind, a, c)
		if compare(kind, b, a) != -ab || compare(kind, a, a) != 0 || (ab == 0) != same(a, b) {
			t.Errorf("kind %d: %v and %v: %d", kind, a, b, ab)
		}
		if ab <= 0 && bc <= 0 && ac != min(ab, bc) {
			t.Errorf("kind %d: %v, %v, %v: %d, %d, but %d", kind, a, b, c, ab, bc, ac)
		}
	}
}

// P5.2: the bytes as the chapter says them.
func TestExamples(t *testing.T) {
	for _, x := range []struct {
		kind int
		c    api.Cell
		b    []byte
	}{
		{api.KI8, number(-3), []byte{1, 5}},
		{api.KI8, number(-128), []byte{1, 0xff, 1}},
		{api.KI8, number(127), []byte{1, 0xfe, 1}},
		{api.KI16, number(150), []byte{1, 0xac, 2}},
		{api.KI64, number(math.MinInt64), []byte{1, 0xff, 0xff, 0xff, 0xff, 0xff, 0xff, 0xff, 0xff, 0xff, 1}},
		{api.KI64, number(math.MaxInt64), []byte{1, 0xfe, 0xff, 0xff, 0xff, 0xff, 0xff, 0xff, 0xff, 0xff, 1}},
		{api.KU16, number(65535), []byte{1, 0xfe, 0xff, 7}},
		{api.KBool, number(0), []byte{1, 0}},
		{api.KBool, number(1), []byte{1, 2}},
		{api.KStr, text("hi"), []byte{1, 2, 'h', 'i'}},
		{api.KStr, text(""), []byte{1, 0}},
		{api.KBytes, text("\x00"), []byte{1, 1, 0}},
		{api.KI32, null(), []byte{0}},
		{api.KStr, null(), []byte{0}},
	} {
		wantPut(t, x.kind, x.c, x.b, api.OK)
		wantGet(t, x.kind, x.b, 0, x.c, len(x.b), api.OK)
	}
	wantPut(t, api.KI8, number(128), nil, api.ErrRange)
	wantNoGet(t, api.KBool, []byte{1, 4}, 0, api.ErrRange)
}

// P5.2, P5.3, P3: all right cells, with other bytes ahead and behind.
func TestPutAndBack(t *testing.T) {
	for _, kind := range kinds {
		for _, c := range ascending(kind) {
			b := plainPut(kind, c)
			wantPut(t, kind, c, b, api.OK)
			wantGet(t, kind, b, 0, c, len(b), api.OK)
			wantGet(t, kind, slices.Concat([]byte{2, 1}, b, []byte{0x80, 0}), 2, c, 2+len(b), api.OK)
		}
		for n := range 201 {
			if kind > api.KBool {
				c := api.Cell{B: bytes.Repeat([]byte{0xfe}, n)}
				b := plainPut(kind, c)
				wantPut(t, kind, c, b, api.OK)
				wantGet(t, kind, b, 0, c, len(b), api.OK)
			}
		}
	}
}

// P5.2, P1: Check's error, null being allowed.
func TestPutErrors(t *testing.T) {
	for _, kind := range slices.Concat(kinds, noKinds) {
		for _, c := range mixed() {
			var want []byte
			wantErr := plainCheck(kind, true, c)
			if wantErr == api.OK {
				want = plainPut(kind, c)
			}
			wantPut(t, kind, c, want, wantErr)
		}
	}
}

// P5.2, P1: places below 0, at the end and behind it, and kinds that are none, ahead of what the bytes say.
func TestGetPlaces(t *testing.T) {
	b := []byte{1, 2, 0}
	for _, kind := range kinds {
		for _, at := range []int{math.MinInt, -2, -1, 4, 5, math.MaxInt - 1, math.MaxInt} {
			wantNoGet(t, kind, b, at, api.ErrArg)
			wantNoGet(t, kind, []byte{9, 9, 9}, at, api.ErrArg)
		}
		wantNoGet(t, kind, nil, -1, api.ErrArg)
		wantNoGet(t, kind, nil, 0, api.ErrShort)
		wantNoGet(t, kind, nil, 1, api.ErrArg)
		wantNoGet(t, kind, b, 3, api.ErrShort)
		wantNoGet(t, kind, b[:1], 2, api.ErrArg) // what lies behind the length isn't there
		wantNoGet(t, kind, b[:1], 0, api.ErrShort)
		wantGet(t, kind, b, 2, null(), 3, api.OK)
	}
	for _, kind := range noKinds {
		for at := -1; at <= 4; at++ {
			wantNoGet(t, kind, b, at, api.ErrArg)
		}
	}
}

// P5.2: each error, and which one is named first.
func TestGetErrors(t *testing.T) {
	for _, kind := range kinds {
		for c := 2; c < 256; c++ {
			wantNoGet(t, kind, []byte{byte(c)}, 0, api.ErrForm)
			wantNoGet(t, kind, []byte{byte(c), 0x80, 0, 0}, 0, api.ErrForm)
		}
		wantNoGet(t, kind, []byte{1}, 0, api.ErrShort)
		wantNoGet(t, kind, []byte{1, 0x80}, 0, api.ErrShort)
		wantNoGet(t, kind, []byte{1, 0x80, 0}, 0, api.ErrForm)
		wantNoGet(t, kind, []byte{1, 0xff, 0xff, 0xff, 0xff, 0xff, 0xff, 0xff, 0xff, 0xff, 2, 0}, 0, api.ErrWide)
		wantNoGet(t, kind, []byte{1, 0xff, 0xff, 0xff, 0xff, 0xff, 0xff, 0xff, 0xff, 0xff}, 0, api.ErrShort)
	}
	for kind, span := range spans {
		for _, v := range []int64{span[0] - 1, span[1] + 1} {
			if kind != api.KI64 {
				wantNoGet(t, kind, plainPut(kind, number(v)), 0, api.ErrRange)
			}
		}
	}
	for _, kind := range []int{api.KStr, api.KBytes} {
		for _, n := range []uint64{201, 202, 256, 1 << 31, 1 << 32, 1<<32 + 1, 1 << 63, math.MaxUint64} {
			head := append([]byte{1}, vint.Put(n)...)
			wantNoGet(t, kind, head, 0, api.ErrLong)
			wantNoGet(t, kind, append(head, make([]byte, 300)...), 0, api.ErrLong)
			wantNoGet(t, kind, append(head, bytes.Repeat([]byte("x"), 300)...), 0, api.ErrLong)
		}
		wantNoGet(t, kind, []byte{1, 3, 0, 'a'}, 0, api.ErrShort)
		wantNoGet(t, kind, []byte{1, 3, 'a', 'b'}, 0, api.ErrShort)
		wantNoGet(t, kind, append([]byte{1, 200, 1}, make([]byte, 199)...), 0, api.ErrShort)
	}
	for at := range 200 {
		b := append([]byte{1, 200, 1}, bytes.Repeat([]byte("x"), 200)...)
		b[3+at] = 0
		wantNoGet(t, api.KStr, b, 0, api.ErrForm)
		wantGet(t, api.KBytes, b, 0, api.Cell{B: b[3:]}, 203, api.OK)
	}
	wantGet(t, api.KStr, []byte{1, 1, 'a', 0}, 0, text("a"), 3, api.OK)
}

// P5.2: each beginning of a cell's bytes.
func TestGetOfBeginnings(t *testing.T) {
	for _, kind := range kinds {
		for _, c := range ascending(kind) {
			b := plainPut(kind, c)
			for cut := range b {
				wantNoGet(t, kind, b[:cut], 0, api.ErrShort)
			}
		}
	}
}

// got holds a place against the plain reading; what is got is written so.
func got(t *testing.T, kind int, b []byte, at int) {
	t.Helper()
	want, wantNext, wantErr := plainGet(kind, b, at)
	wantGet(t, kind, b, at, want, wantNext, wantErr)
	if wantErr == api.OK {
		wantPut(t, kind, want, b[at:wantNext], api.OK)
	}
}

// P5.2, P5.3, P3: all bytes of two lengths behind a 1, and all tricky ones of up to six.
func TestGetAllShort(t *testing.T) {
	for _, kind := range kinds {
		for v := range 1 << 16 {
			got(t, kind, []byte{1, byte(v), byte(v >> 8)}, 0)
		}
		b := make([]byte, 0, 6)
		var all func()
		all = func() {
			got(t, kind, b, 0)
			if len(b) == cap(b) {
				return
			}
			for _, c := range []byte{0, 1, 2, 4, 'a', 0x80, 0xff} {
				b = append(b, c)
				all()
				b = b[:len(b)-1]
			}
		}
		all()
	}
}

// P5.2, P5.3, P3: cells one behind the other, with a byte changed somewhere.
func TestGetOfAnyBytes(t *testing.T) {
	rnd := rand.New(rand.NewPCG(5, 3))
	for range 20000 {
		kind := kinds[rnd.IntN(len(kinds))]
		var b []byte
		for range 1 + rnd.IntN(3) {
			b = append(b, plainPut(kind, anyOf(rnd, kind))...)
		}
		b[rnd.IntN(len(b))] ^= byte(rnd.Uint32()) & byte(rnd.Uint32())
		for at := range len(b) + 1 {
			got(t, kind, b, at)
			got(t, kinds[rnd.IntN(len(kinds))], b, at)
		}
	}
}

// P5.5: arguments stay as they are, what lies behind their length too.
func TestArgumentsStay(t *testing.T) {
	room := []byte("abcdefgh")
	a, b := api.Cell{B: room[:2]}, api.Cell{B: room[4:5]}
	for _, kind := range kinds {
		cell.Check(kind, true, a)
		cell.Compare(kind, a, b)
		cell.Put(kind, a)
		cell.Put(kind, b)
	}
	if string(room) != "abcdefgh" || string(a.B) != "ab" || string(b.B) != "e" {
		t.Errorf("the texts became %x", room)
	}
	bs := []byte{1, 2, 'h', 'i', 0, 1, 3}
	for _, kind := range kinds {
		for at := range len(bs) + 1 {
			cell.Get(kind, bs[:5], at)
			cell.Get(kind, bs, at)
		}
	}
	if !bytes.Equal(bs, []byte{1, 2, 'h', 'i', 0, 1, 3}) {
		t.Errorf("the bytes became %x", bs)
	}
}

// P5.5, P2: an answer that is written over, or an argument behind the call, is no matter to another answer.
func TestAnswersAreNew(t *testing.T) {
	for _, kind := range kinds {
		for _, c := range ascending(kind) {
			want := plainPut(kind, c)
			c.B = append(make([]byte, 0, len(c.B)+40), c.B...)
			p, _ := cell.Put(kind, c)
			q, _ := cell.Put(kind, c)
			fill(p, 0xaa)
			fill(c.B, 7)
			if !bytes.Equal(q, want) {
				t.Errorf("kind %d: the bytes became %x; want %x", kind, q, want)
			}
			fill(q, 0xbb)
			if room := c.B[:cap(c.B)]; bytes.Count(room, []byte{7}) != len(room) {
				t.Errorf("kind %d: the text became %x", kind, room)
			}
		}
	}
	for _, s := range []string{"", "a", "hi", "hi there"} {
		b := append(plainPut(api.KStr, text(s)), "behind it"...)
		before := slices.Clone(b)
		c, _, _ := cell.Get(api.KStr, b, 0)
		d, _, _ := cell.Get(api.KStr, b, 0)
		fill(c.B, 0xcc)
		if !bytes.Equal(b, before) {
			t.Errorf("the bytes became %x", b)
		}
		fill(b, 0xdd)
		if string(d.B) != s {
			t.Errorf("the answer became %x", d.B)
		}
	}
}
