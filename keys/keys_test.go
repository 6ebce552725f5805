package keys_test

import (
	"bytes"
	"math"
	"math/big"
	"math/rand/v2"
	"slices"
	"strconv"
	"testing"

	"stoa/api"
	"stoa/cell"
	"stoa/keys"
)

var kinds = []int{api.KI8, api.KI16, api.KI32, api.KI64, api.KU16, api.KBool, api.KStr, api.KBytes}

// signed are the bytes of each kind of numbers with a sign.
var signed = map[int]int{api.KI8: 1, api.KI16: 2, api.KI32: 4, api.KI64: 8}

// spans are the least and the greatest number of each kind of numbers.
var spans = map[int][2]int64{
	api.KI8:   {math.MinInt8, math.MaxInt8},
	api.KI16:  {math.MinInt16, math.MaxInt16},
	api.KI32:  {math.MinInt32, math.MaxInt32},
	api.KI64:  {math.MinInt64, math.MaxInt64},
	api.KU16:  {0, 65535},
	api.KBool: {0, 1},
}

func number(v int64) api.Cell {
	return api.Cell{Int: v}
}

func text(s string) api.Cell {
	return api.Cell{B: []byte(s)}
}

func null() api.Cell {
	return api.Cell{Null: true}
}

// keyed has a key of these kinds, and behind it a column that may be null.
func keyed(kinds ...int) api.Schema {
	s := api.Schema{Keys: len(kinds)}
	for i, kind := range kinds {
		s.Cols = append(s.Cols, api.Column{Name: "k" + strconv.Itoa(i), Kind: kind})
	}
	s.Cols = append(s.Cols, api.Column{Name: "v", Kind: api.KI8, Null: true})
	return s
}

// example is the schema of the chapter's examples.
func example() api.Schema {
	return keyed(api.KI16, api.KBytes)
}

// wrongs are schemas that are not right, each in one way.
func wrongs() []api.Schema {
	out := []api.Schema{{}, {Keys: 1}}
	for _, keys := range []int{math.MinInt, -1, 0, 4, 5, 12, 1 << 32, 1<<32 + 1, math.MaxInt} {
		s := keyed(api.KI8, api.KStr, api.KBytes)
		s.Cols = append(s.Cols, api.Column{Name: "w", Kind: api.KI8})
		s.Keys = keys
		out = append(out, s)
	}
	short := keyed(api.KI8)
	short.Cols, short.Keys = short.Cols[:1], 2
	long := keyed(api.KI8)
	for len(long.Cols) < 13 {
		long.Cols = append(long.Cols, api.Column{Name: "x" + strconv.Itoa(len(long.Cols)), Kind: api.KI8})
	}
	out = append(out, short, long, keyed(api.KI8, 0), keyed(9, api.KStr), keyed(-1), keyed(256+api.KI8))
	for _, bend := range []func(col *api.Column){
		func(col *api.Column) { col.Name = "" },
		func(col *api.Column) { col.Name = "A" },
		func(col *api.Column) { col.Name = "v" },
		func(col *api.Column) { col.Null = true },
	} {
		s := example()
		bend(&s.Cols[1])
		out = append(out, s)
	}
	s := example()
	s.Cols[2].Kind = 9
	return append(out, s)
}

// same takes a list that is nil for an empty one.
func same(a, b api.Cell) bool {
	return a.Null == b.Null && a.Int == b.Int && bytes.Equal(a.B, b.B)
}

func cloned(cells []api.Cell) []api.Cell {
	cells = slices.Clone(cells)
	for i := range cells {
		cells[i].B = bytes.Clone(cells[i].B)
	}
	return cells
}

// The helpers beneath say in the plainest way what the chapter says.

// plainNumber writes in numbers without a bound: the highest bit is turned by adding its worth.
func plainNumber(kind int, v int64) []byte {
	size := signed[kind]
	switch kind {
	case api.KBool:
		return []byte{byte(v)}
	case api.KU16:
		return []byte{byte(v / 256), byte(v % 256)}
	}
	top := new(big.Int).Lsh(big.NewInt(1), uint(8*size-1))
	return top.Add(top, big.NewInt(v)).FillBytes(make([]byte, size))
}

// plainCell writes a cell that is right.
func plainCell(kind int, c api.Cell) []byte {
	if _, isNumber := spans[kind]; isNumber {
		return plainNumber(kind, c.Int)
	}
	var b []byte
	for _, x := range c.B {
		b = append(b, x)
		if kind == api.KBytes && x == 0 {
			b = append(b, 0xff)
		}
	}
	b = append(b, 0)
	if kind == api.KBytes {
		b = append(b, 0)
	}
	return b
}

func plainEncode(s api.Schema, cells []api.Cell) []byte {
	var b []byte
	for i, c := range cells {
		b = slices.Concat(b, plainCell(s.Cols[i].Kind, c))
	}
	return b
}

// plainErr is Encode's error by a schema that is right.
func plainErr(s api.Schema, cells []api.Cell) api.Errno {
	if len(cells) == 0 || len(cells) > s.Keys {
		return api.ErrCols
	}
	for i, c := range cells {
		if e := cell.Check(s.Cols[i].Kind, false, c); e != api.OK {
			return e
		}
	}
	return api.OK
}

// plainOrder is the order cell by cell, of cells that are right.
func plainOrder(s api.Schema, a, b []api.Cell) int {
	for i := range min(len(a), len(b)) {
		if k, _ := cell.Compare(s.Cols[i].Kind, a[i], b[i]); k != 0 {
			return k
		}
	}
	return 0
}

// edges are the numbers around 0, around each power of 2, and their opposites.
func edges() []int64 {
	out := []int64{0, math.MinInt64, math.MinInt64 + 1, math.MaxInt64}
	for power := range 63 {
		at := int64(1) << power
		out = append(out, at-1, at, at+1, 1-at, -at, -1-at)
	}
	slices.Sort(out)
	return slices.Compact(out)
}

// texts are right for KBytes, by their order; those without a 0 for KStr, too.
func texts() [][]byte {
	full := bytes.Repeat([]byte{0xff}, 200)
	zeros := make([]byte, 200)
	return [][]byte{
		nil, {0}, {0, 0}, {0, 0, 0}, zeros[:199], zeros, {0, 0, 1}, {0, 0, 0xff}, {0, 1}, {0, 1, 0}, {0, 0xfe}, {0, 0xff}, {0, 0xff, 0}, {0, 0xff, 0xff},
		{1}, {1, 0}, {1, 0, 0}, {1, 0, 0xff}, {1, 1}, {1, 0xff}, {2}, []byte("a"), []byte("a\x00"), []byte("a\x00\x00"), []byte("a\x00a"),
		[]byte("a\x01"), []byte("aa"), []byte("aa\x00"), []byte("ab"), []byte("b"), {0x7f}, {0x80}, {0x80, 0x80}, {0xc3, 0xa4}, {0xfe}, {0xfe, 0xff},
		{0xff}, {0xff, 0}, {0xff, 0, 0xff}, {0xff, 1}, {0xff, 0xff}, full[:199], full,
	}
}

// ascending are right cells of a kind, each once, from the first to the last.
func ascending(kind int) []api.Cell {
	var out []api.Cell
	span, isNumber := spans[kind]
	for _, v := range edges() {
		if isNumber && v >= span[0] && v <= span[1] {
			out = append(out, number(v))
		}
	}
	for _, b := range texts() {
		if !isNumber && (kind == api.KBytes || !slices.Contains(b, 0)) {
			out = append(out, api.Cell{B: b})
		}
	}
	return out
}

// cellOf is some right cell of a kind; few unlike ones, for lists that begin alike.
func cellOf(rnd *rand.Rand, kind int) api.Cell {
	if span, isNumber := spans[kind]; isNumber {
		some := []int64{span[0], span[1], 0, 1, max(span[0], -1), max(span[0], int64(rnd.IntN(256))-128), min(span[1], 300)}
		return number(min(span[1], some[rnd.IntN(len(some))]))
	}
	b := make([]byte, rnd.IntN(4))
	for i := range b {
		b[i] = []byte{0, 1, 'a', 0xff}[rnd.IntN(4)]
		if kind == api.KStr {
			b[i] |= 1
		}
	}
	return api.Cell{B: b}
}

func cellsOf(rnd *rand.Rand, s api.Schema, n int) []api.Cell {
	var out []api.Cell
	for i := range n {
		out = append(out, cellOf(rnd, s.Cols[i].Kind))
	}
	return out
}

func schemaOf(rnd *rand.Rand) api.Schema {
	some := make([]int, 1+rnd.IntN(3))
	for i := range some {
		some[i] = kinds[rnd.IntN(len(kinds))]
	}
	return keyed(some...)
}

// mixed is some cell, right or wrong.
func mixed(rnd *rand.Rand, kind int) api.Cell {
	if rnd.IntN(4) > 0 {
		return cellOf(rnd, kind)
	}
	c := api.Cell{Null: rnd.IntN(3) == 0, Int: int64(rnd.Uint64()) >> rnd.IntN(64), B: make([]byte, rnd.IntN(3))}
	if rnd.IntN(4) == 0 {
		c.B = make([]byte, 201)
	}
	return c
}

// fill writes over a list, and over its spare room.
func fill(b []byte, c byte) {
	b = b[:cap(b)]
	for i := range b {
		b[i] = c
	}
}

// roomy is b with spare room behind it.
func roomy(b []byte) []byte {
	return append(make([]byte, 0, len(b)+8), b...)
}

func wantEncode(t *testing.T, s api.Schema, cells []api.Cell, want []byte, wantErr api.Errno) {
	t.Helper()
	if b, e := keys.Encode(s, cells); !bytes.Equal(b, want) || e != wantErr {
		t.Errorf("Encode(%v, %v) = %x, %d; want %x, %d", s, cells, b, e, want, wantErr)
	}
}

func wantDecode(t *testing.T, s api.Schema, b []byte, want []api.Cell, wantErr api.Errno) {
	t.Helper()
	if cells, e := keys.Decode(s, b); !slices.EqualFunc(cells, want, same) || e != wantErr {
		t.Errorf("Decode(%v, %x) = %v, %d; want %v, %d", s, b, cells, e, want, wantErr)
	}
}

func wantNoKey(t *testing.T, s api.Schema, b []byte) {
	t.Helper()
	wantDecode(t, s, b, nil, api.ErrKey)
}

func wantBounds(t *testing.T, s api.Schema, low, high []api.Cell, wantLo, wantHi []byte, wantErr api.Errno) {
	t.Helper()
	if lo, hi, e := keys.Bounds(s, low, high); !bytes.Equal(lo, wantLo) || !bytes.Equal(hi, wantHi) || e != wantErr {
		t.Errorf("Bounds(%v, %v, %v) = %x, %x, %d; want %x, %x, %d", s, low, high, lo, hi, e, wantLo, wantHi, wantErr)
	}
}

// P7.1: the chapter's examples.
func TestExamples(t *testing.T) {
	s := example()
	wantEncode(t, s, []api.Cell{number(1), text("a")}, []byte{0x80, 1, 'a', 0, 0}, api.OK)
	wantEncode(t, s, []api.Cell{number(-1), text("\x00")}, []byte{0x7f, 0xff, 0, 0xff, 0, 0}, api.OK)
	wantEncode(t, s, []api.Cell{number(1)}, []byte{0x80, 1}, api.OK)
	wantDecode(t, s, []byte{0x80, 1, 'a', 0, 0}, []api.Cell{number(1), text("a")}, api.OK)
	wantDecode(t, s, []byte{0x7f, 0xff, 0, 0xff, 0, 0}, []api.Cell{number(-1), text("\x00")}, api.OK)
	wantNoKey(t, s, []byte{0x80, 1})
	if b := keys.Next([]byte("a")); string(b) != "a\x00" {
		t.Errorf("Next = %x", b)
	}
}

// P7.1: each kind's bytes, as the chapter says them.
func TestEncodeOfKinds(t *testing.T) {
	for _, x := range []struct {
		kind int
		c    api.Cell
		b    string
	}{
		{api.KI8, number(-128), "\x00"}, {api.KI8, number(-1), "\x7f"}, {api.KI8, number(0), "\x80"}, {api.KI8, number(127), "\xff"},
		{api.KI16, number(-32768), "\x00\x00"}, {api.KI16, number(258), "\x81\x02"}, {api.KI16, number(-2), "\x7f\xfe"},
		{api.KI32, number(0x01020304), "\x81\x02\x03\x04"}, {api.KI32, number(-2), "\x7f\xff\xff\xfe"}, {api.KI32, number(math.MinInt32), "\x00\x00\x00\x00"},
		{api.KI64, number(0x0102030405060708), "\x81\x02\x03\x04\x05\x06\x07\x08"}, {api.KI64, number(-2), "\x7f\xff\xff\xff\xff\xff\xff\xfe"},
		{api.KI64, number(math.MinInt64), "\x00\x00\x00\x00\x00\x00\x00\x00"}, {api.KI64, number(math.MaxInt64), "\xff\xff\xff\xff\xff\xff\xff\xff"},
		{api.KU16, number(0), "\x00\x00"}, {api.KU16, number(258), "\x01\x02"}, {api.KU16, number(65535), "\xff\xff"},
		{api.KBool, number(0), "\x00"}, {api.KBool, number(1), "\x01"},
		{api.KStr, text(""), "\x00"}, {api.KStr, text("ab"), "ab\x00"}, {api.KStr, text("\xff"), "\xff\x00"}, {api.KStr, text("\x01"), "\x01\x00"},
		{api.KBytes, text(""), "\x00\x00"}, {api.KBytes, text("ab"), "ab\x00\x00"}, {api.KBytes, text("\xff"), "\xff\x00\x00"},
		{api.KBytes, text("\x00"), "\x00\xff\x00\x00"}, {api.KBytes, text("\x00\x00"), "\x00\xff\x00\xff\x00\x00"}, {api.KBytes, text("a\x00b"), "a\x00\xffb\x00\x00"},
		{api.KBytes, text("\x00\xff"), "\x00\xff\xff\x00\x00"},
	} {
		wantEncode(t, keyed(x.kind), []api.Cell{x.c}, []byte(x.b), api.OK)
		wantDecode(t, keyed(x.kind), []byte(x.b), []api.Cell{x.c}, api.OK)
	}
}

// P7.1, P7.2: every number of the small kinds, and the edges of the others.
func TestNumbers(t *testing.T) {
	for kind, span := range spans {
		s := keyed(kind)
		vs := edges()
		if span[1]-span[0] < 1<<16 && span[1]-span[0] > 0 {
			vs = nil
			for v := span[0]; v <= span[1]; v++ {
				vs = append(vs, v)
			}
		}
		for _, v := range vs {
			if v < span[0] || v > span[1] {
				wantEncode(t, s, []api.Cell{number(v)}, nil, api.ErrRange)
				continue
			}
			want := plainNumber(kind, v)
			wantEncode(t, s, []api.Cell{number(v)}, want, api.OK)
			wantDecode(t, s, want, []api.Cell{number(v)}, api.OK)
		}
	}
}

// P7.1, P3: keys of all kinds and lengths, whole and their first cells, read back if whole.
func TestEncodeAndBack(t *testing.T) {
	rnd := rand.New(rand.NewPCG(7, 1))
	for range 20000 {
		s := schemaOf(rnd)
		for n := 1; n <= s.Keys; n++ {
			cells := cellsOf(rnd, s, n)
			want := plainEncode(s, cells)
			wantEncode(t, s, cells, want, api.OK)
			if n < s.Keys {
				wantNoKey(t, s, want)
				continue
			}
			wantDecode(t, s, want, cells, api.OK)
			for cut := range want {
				wantNoKey(t, s, want[:cut])
			}
			for _, more := range []byte{0, 1, 0x80, 0xff} {
				wantNoKey(t, s, slices.Concat(want, []byte{more}))
			}
		}
	}
}

// P7.1: the key's columns alone are asked for, not those behind them.
func TestKeyOfAllColumns(t *testing.T) {
	for n := 1; n <= 3; n++ {
		s := keyed(api.KU16, api.KBool, api.KStr)
		s.Keys = n
		cells := []api.Cell{number(513), number(1), text("z")}
		want := []byte{2, 1, 1, 'z', 0}
		ends := []int{2, 3, 5}
		for m := range 4 {
			switch {
			case m == 0 || m > n:
				wantEncode(t, s, cells[:m], nil, api.ErrCols)
			default:
				wantEncode(t, s, cells[:m], want[:ends[m-1]], api.OK)
			}
		}
		wantDecode(t, s, want[:ends[n-1]], cells[:n], api.OK)
		s.Cols = s.Cols[:n]
		wantEncode(t, s, cells[:n], want[:ends[n-1]], api.OK)
		wantDecode(t, s, want[:ends[n-1]], cells[:n], api.OK)
	}
}

// P7.1: a schema that isn't right is told ahead of all else.
func TestSchemaFirst(t *testing.T) {
	for _, s := range wrongs() {
		for _, cells := range [][]api.Cell{nil, {number(1)}, {number(1), text("a")}, {null(), number(1 << 40)}, make([]api.Cell, 99)} {
			wantEncode(t, s, cells, nil, api.ErrSchema)
			for _, high := range [][]api.Cell{nil, {number(2)}, make([]api.Cell, 4)} {
				wantBounds(t, s, cells, high, nil, nil, api.ErrSchema)
				wantBounds(t, s, high, cells, nil, nil, api.ErrSchema)
			}
		}
		for _, b := range []string{"", "\x80", "\x80\x01", "\x80\x01a\x00\x00", "\xff\xff\xff"} {
			wantDecode(t, s, []byte(b), nil, api.ErrSchema)
		}
	}
}

// P7.1: each error of cells, and which one is named first.
func TestEncodeErrors(t *testing.T) {
	s := keyed(api.KI8, api.KStr, api.KBytes)
	long, most := api.Cell{B: bytes.Repeat([]byte("x"), 201)}, api.Cell{B: bytes.Repeat([]byte("x"), 200)}
	zeros := api.Cell{B: make([]byte, 201)}
	for _, x := range []struct {
		cells []api.Cell
		e     api.Errno
	}{
		{nil, api.ErrCols},
		{[]api.Cell{}, api.ErrCols},
		{[]api.Cell{number(1), text("a"), text("b"), number(1)}, api.ErrCols},
		{[]api.Cell{number(128), text("a"), text("b"), null()}, api.ErrCols},
		{make([]api.Cell, 5000), api.ErrCols},
		{[]api.Cell{number(128)}, api.ErrRange},
		{[]api.Cell{number(-129), long}, api.ErrRange},
		{[]api.Cell{null()}, api.ErrNull},
		{[]api.Cell{{Null: true, Int: 1}}, api.ErrNull},
		{[]api.Cell{text("a")}, api.ErrKind},
		{[]api.Cell{{Int: 128, B: []byte("a")}}, api.ErrKind},
		{[]api.Cell{number(1), null()}, api.ErrNull},
		{[]api.Cell{number(1), null(), zeros}, api.ErrNull},
		{[]api.Cell{number(1), number(1), zeros}, api.ErrKind},
		{[]api.Cell{number(1), long}, api.ErrLong},
		{[]api.Cell{number(1), zeros}, api.ErrLong},
		{[]api.Cell{number(1), text("\x00"), zeros}, api.ErrForm},
		{[]api.Cell{number(1), text("a\x00")}, api.ErrForm},
		{[]api.Cell{number(1), most, zeros}, api.ErrLong},
		{[]api.Cell{number(1), most, number(3)}, api.ErrKind},
		{[]api.Cell{number(1), most, null()}, api.ErrNull},
	} {
		wantEncode(t, s, x.cells, nil, x.e)
	}
	wantEncode(t, s, []api.Cell{number(1), most, most}, slices.Concat([]byte{0x81}, most.B, []byte{0}, most.B, []byte{0, 0}), api.OK)
}

// P7.1: cells of all sorts, right and wrong, and how many of them.
func TestEncodeOfAny(t *testing.T) {
	rnd := rand.New(rand.NewPCG(7, 2))
	told := map[api.Errno]int{}
	for range 30000 {
		s := schemaOf(rnd)
		var cells []api.Cell
		for i := range rnd.IntN(s.Keys + 2) {
			cells = append(cells, mixed(rnd, s.Cols[i].Kind))
		}
		e := plainErr(s, cells)
		told[e]++
		if e != api.OK {
			wantEncode(t, s, cells, nil, e)
			continue
		}
		wantEncode(t, s, cells, plainEncode(s, cells), api.OK)
	}
	for _, e := range []api.Errno{api.OK, api.ErrCols, api.ErrNull, api.ErrKind, api.ErrRange, api.ErrLong, api.ErrForm} {
		if told[e] == 0 {
			t.Errorf("no cells told %d", e)
		}
	}
}

// P7.1: bytes that are no key.
func TestDecodeErrors(t *testing.T) {
	for _, x := range []struct {
		kinds []int
		bs    []string
	}{
		{[]int{api.KI8}, []string{"", "\x80\x80", "\x80\x00"}},
		{[]int{api.KI16}, []string{"", "\x80", "\x80\x01\x00"}},
		{[]int{api.KI32}, []string{"\x80\x01\x02", "\x80\x01\x02\x03\x04"}},
		{[]int{api.KI64}, []string{"\x80\x01\x02\x03\x04\x05\x06", "\x80\x01\x02\x03\x04\x05\x06\x07\x08"}},
		{[]int{api.KU16}, []string{"", "\x01", "\x01\x02\x03"}},
		{[]int{api.KBool}, []string{"", "\x02", "\x80", "\x81", "\xff", "\x01\x00", "\x00\x01"}},
		{[]int{api.KStr}, []string{"", "a", "a\x00\x00", "a\x00a\x00", "\x00\x00", "a\x00\xff\x00"}},
		{[]int{api.KBytes}, []string{"", "a", "\x00", "a\x00", "a\x00\x01", "a\x00\xfe\x00\x00", "a\x00\x01\x00\x00", "\x00\xff", "\x00\xff\x00", "a\x00\x00\x00", "\x00\x00\x00\x00", "a\x00\xff", "a\x00\x00\xff"}},
		{[]int{api.KI8, api.KBool}, []string{"\x80", "\x80\x02", "\x80\x01\x01"}},
		{[]int{api.KStr, api.KBool}, []string{"a\x00", "a\x00\x02", "a\x01", "a\x00\x01\x00"}},
		{[]int{api.KBytes, api.KStr}, []string{"a\x00\x00", "a\x00\x00b", "a\x00b\x00", "a\x00\xff\x00\x00"}},
		{[]int{api.KBytes, api.KBytes, api.KBytes}, []string{"\x00\x00\x00\x00", "\x00\x00\x00\x00\x00", "\x00\x00\x00\x00\x00\x00\x00", "\x00\xff\x00\x00\x00\x00"}},
	} {
		for _, b := range x.bs {
			wantNoKey(t, keyed(x.kinds...), []byte(b))
		}
	}
}

// P7.1, P7.2: texts and bytes as long as they may be, and longer ones, at the key's first cell and its last.
func TestLongest(t *testing.T) {
	for _, c := range []byte{0, 1, 'x', 0xff} {
		for n := 199; n <= 203; n++ {
			b := api.Cell{B: bytes.Repeat([]byte{c}, n)}
			for _, kind := range []int{api.KStr, api.KBytes} {
				if kind == api.KStr && c == 0 {
					continue
				}
				s, cells := keyed(kind, api.KBool, kind), []api.Cell{b, number(1), b}
				p := plainEncode(s, cells)
				first := plainEncode(s, []api.Cell{b, number(1), text("s")})
				last := plainEncode(s, []api.Cell{text("s"), number(1), b})
				if n <= 200 {
					wantEncode(t, s, cells, p, api.OK)
					wantDecode(t, s, p, cells, api.OK)
					continue
				}
				wantEncode(t, s, cells, nil, api.ErrLong)
				wantNoKey(t, s, p)
				wantNoKey(t, s, first)
				wantNoKey(t, s, last)
			}
		}
	}
	for _, unit := range []string{"x", "\x00\xff", "\x00", "\xff"} {
		great := bytes.Repeat([]byte(unit), 1<<20)
		for _, kind := range kinds {
			wantNoKey(t, keyed(kind), great)
			wantNoKey(t, keyed(kind), slices.Concat(great, []byte{0, 0}))
			wantNoKey(t, keyed(kind, kind), great)
		}
	}
}

// each goes through all bytes of up to n of these letters; the bytes are written over behind the call.
func each(letters []byte, n int, do func(b []byte)) {
	b := make([]byte, 0, n)
	var all func()
	all = func() {
		do(b)
		if len(b) == n {
			return
		}
		for _, c := range letters {
			b = append(b, c)
			all()
			b = b[:len(b)-1]
		}
	}
	all()
}

// every are all lists of one cell of each kind, of numbers from -2 to 2 and texts of up to n letters.
func every(letters []byte, n int, kinds []int) [][]api.Cell {
	if len(kinds) == 0 {
		return [][]api.Cell{nil}
	}
	var cells []api.Cell
	if span, isNumber := spans[kinds[0]]; isNumber {
		for v := max(span[0], -2); v <= min(span[1], 2); v++ {
			cells = append(cells, number(v))
		}
	} else {
		each(letters, n, func(b []byte) {
			if c := (api.Cell{B: bytes.Clone(b)}); cell.Check(kinds[0], false, c) == api.OK {
				cells = append(cells, c)
			}
		})
	}
	var out [][]api.Cell
	for _, rest := range every(letters, n, kinds[1:]) {
		for _, c := range cells {
			out = append(out, slices.Concat([]api.Cell{c}, rest))
		}
	}
	return out
}

// P7.2: of all bytes of up to six just those are read that some cells write, and as these.
func TestOneToOne(t *testing.T) {
	letters := []byte{0, 1, 2, 0xff}
	for _, x := range []struct {
		kinds []int
		most  int // letters of a text, for a longer one leaves no room for the other cells
	}{
		{[]int{api.KBool}, 0}, {[]int{api.KBool, api.KBool, api.KBool}, 0},
		{[]int{api.KStr}, 5}, {[]int{api.KStr, api.KStr}, 4}, {[]int{api.KBool, api.KStr, api.KBool}, 3}, {[]int{api.KStr, api.KBool, api.KStr}, 3},
		{[]int{api.KBytes}, 4}, {[]int{api.KBool, api.KBytes}, 3}, {[]int{api.KBytes, api.KBool}, 3}, {[]int{api.KBytes, api.KBytes}, 2},
		{[]int{api.KStr, api.KBytes}, 3}, {[]int{api.KBytes, api.KStr}, 3}, {[]int{api.KBytes, api.KBytes, api.KBytes}, 0},
	} {
		s := keyed(x.kinds...)
		written := map[string][]api.Cell{}
		for _, cells := range every(letters, x.most, x.kinds) {
			b, e := keys.Encode(s, cells)
			if other, ok := written[string(b)]; ok || e != api.OK {
				t.Errorf("%v and %v are written %x, %d", cells, other, b, e)
			}
			written[string(b)] = cells
		}
		each(letters, 6, func(b []byte) {
			if cells, ok := written[string(b)]; ok {
				wantDecode(t, s, b, cells, api.OK)
			} else {
				wantNoKey(t, s, b)
			}
		})
	}
}

// P7.2, P3, P1: whatever bytes are read are written so again.
func TestDecodeOfAny(t *testing.T) {
	rnd := rand.New(rand.NewPCG(7, 3))
	right := 0
	for range 100000 {
		s := schemaOf(rnd)
		b := plainEncode(s, cellsOf(rnd, s, s.Keys))
		for range rnd.IntN(3) {
			switch at := rnd.IntN(len(b) + 1); {
			case rnd.IntN(3) == 0:
				b = slices.Insert(b, at, byte(rnd.IntN(256)))
			case at < len(b) && rnd.IntN(2) == 0:
				b = slices.Delete(b, at, at+1)
			case at < len(b):
				b[at] = []byte{0, 1, 2, 0xff}[rnd.IntN(4)]
			}
		}
		cells, e := keys.Decode(s, b)
		if e != api.OK {
			if e != api.ErrKey || cells != nil {
				t.Errorf("Decode(%v, %x) = %v, %d", s, b, cells, e)
			}
			continue
		}
		right++
		if len(cells) != s.Keys || plainErr(s, cells) != api.OK || !bytes.Equal(plainEncode(s, cells), b) {
			t.Errorf("Decode(%v, %x) = %v", s, b, cells)
		}
		wantEncode(t, s, cells, b, api.OK)
	}
	if right < 10000 || right > 90000 {
		t.Errorf("%d were right", right)
	}
}

// P7.3: the cells of each kind from the first to the last.
func TestOrderOfKinds(t *testing.T) {
	for _, kind := range kinds {
		s, cells := keyed(kind, api.KI8), ascending(kind)
		for i, a := range cells {
			for j, b := range cells {
				k, _ := keys.Encode(s, []api.Cell{a})
				l, _ := keys.Encode(s, []api.Cell{b})
				want := 0
				if i < j {
					want = -1
				} else if i > j {
					want = 1
				}
				if got := bytes.Compare(k, l); got != want || len(k) == 0 {
					t.Errorf("kind %d: of %v and %v the bytes are %x and %x", kind, a, b, k, l)
				}
			}
		}
	}
}

// P7.3: whatever stands behind the first unlike cell.
func TestOrderOfLists(t *testing.T) {
	letters := []byte{0, 1, 0xff}
	for _, some := range [][]int{{api.KBytes, api.KI8}, {api.KStr, api.KI16}, {api.KBool, api.KI64}, {api.KI32, api.KBool, api.KU16}} {
		s, lists := keyed(some...), every(letters, 3, some)
		for _, a := range lists {
			k, _ := keys.Encode(s, a)
			for _, b := range lists {
				l, _ := keys.Encode(s, b)
				if bytes.Compare(k, l) != plainOrder(s, a, b) {
					t.Errorf("of %v and %v the bytes are %x and %x", a, b, k, l)
				}
			}
		}
	}
	rnd := rand.New(rand.NewPCG(7, 4))
	for range 50000 {
		s := schemaOf(rnd)
		n := 1 + rnd.IntN(s.Keys)
		a, b := cellsOf(rnd, s, n), cellsOf(rnd, s, n)
		k, _ := keys.Encode(s, a)
		l, _ := keys.Encode(s, b)
		if bytes.Compare(k, l) != plainOrder(s, a, b) {
			t.Errorf("of %v and %v the bytes are %x and %x", a, b, k, l)
		}
	}
}

// P7.1: no bytes lie between key and Next, and Next lies above key.
func TestNext(t *testing.T) {
	letters := []byte{0, 1, 0xff}
	each(letters, 3, func(b []byte) {
		key := bytes.Clone(b)
		next := keys.Next(key)
		if !bytes.Equal(next, append(bytes.Clone(key), 0)) {
			t.Errorf("Next(%x) = %x", key, next)
		}
		each(letters, 5, func(x []byte) {
			if (bytes.Compare(x, key) > 0) != (bytes.Compare(x, next) >= 0) {
				t.Errorf("%x lies between %x and %x", x, key, next)
			}
		})
	})
	if next := keys.Next(nil); !bytes.Equal(next, []byte{0}) {
		t.Errorf("Next of no bytes = %x", next)
	}
	great := bytes.Repeat([]byte{7}, 1<<20)
	if next := keys.Next(great); !bytes.Equal(next, append(bytes.Clone(great), 0)) {
		t.Errorf("Next of %d bytes has %d", len(great), len(next))
	}
}

// P7.1: the bytes of both bounds, and of none.
func TestBounds(t *testing.T) {
	s := example()
	one, two := []api.Cell{number(1)}, []api.Cell{number(2), text("b")}
	k, l := []byte{0x80, 1}, []byte{0x80, 2, 'b', 0, 0}
	wantBounds(t, s, one, two, k, l, api.OK)
	wantBounds(t, s, two, one, l, k, api.OK)
	wantBounds(t, s, one, one, k, k, api.OK)
	wantBounds(t, s, one, nil, k, nil, api.OK)
	wantBounds(t, s, nil, two, nil, l, api.OK)
	wantBounds(t, s, nil, nil, nil, nil, api.OK)
	wantBounds(t, s, []api.Cell{}, []api.Cell{}, nil, nil, api.OK)
}

// P7.1: low's error is told ahead of high's, and with neither bound.
func TestBoundsErrors(t *testing.T) {
	s := example()
	fine, many := []api.Cell{number(1)}, []api.Cell{number(1), text("a"), number(1)}
	none, far, long := []api.Cell{null()}, []api.Cell{number(40000)}, []api.Cell{number(1), {B: make([]byte, 201)}}
	for _, bad := range []struct {
		cells []api.Cell
		e     api.Errno
	}{{many, api.ErrCols}, {none, api.ErrNull}, {far, api.ErrRange}, {long, api.ErrLong}} {
		wantBounds(t, s, bad.cells, nil, nil, nil, bad.e)
		wantBounds(t, s, nil, bad.cells, nil, nil, bad.e)
		wantBounds(t, s, bad.cells, fine, nil, nil, bad.e)
		wantBounds(t, s, fine, bad.cells, nil, nil, bad.e)
		for _, high := range [][]api.Cell{many, none, far, long} {
			wantBounds(t, s, bad.cells, high, nil, nil, bad.e)
		}
	}
}

// P7.1: of all short bytes, whatever they say.
func TestWithin(t *testing.T) {
	var all []string
	each([]byte{0, 1, 0xff}, 3, func(b []byte) { all = append(all, string(b)) })
	for _, key := range all {
		for _, low := range all {
			for _, high := range all {
				want := key >= low && (high == "" || key < high)
				if got := keys.Within([]byte(key), []byte(low), []byte(high)); got != want {
					t.Errorf("Within(%x, %x, %x) = %v", key, low, high, got)
				}
			}
		}
	}
	if !keys.Within(nil, nil, nil) || !keys.Within([]byte{0}, nil, nil) || keys.Within(nil, []byte{0}, nil) {
		t.Error("Within of nil lists")
	}
}

// P7.4: whole keys against bounds of fewer cells or as many, and against no bound.
func TestWithinBounds(t *testing.T) {
	rnd := rand.New(rand.NewPCG(7, 5))
	within := 0
	for range 100000 {
		s := schemaOf(rnd)
		whole := cellsOf(rnd, s, s.Keys)
		low, high := cellsOf(rnd, s, rnd.IntN(s.Keys+1)), cellsOf(rnd, s, rnd.IntN(s.Keys+1))
		if rnd.IntN(3) == 0 {
			copy(low, whole[:rnd.IntN(len(low)+1)])
			copy(high, whole[:rnd.IntN(len(high)+1)])
		}
		key, e := keys.Encode(s, whole)
		lo, hi, f := keys.Bounds(s, low, high)
		if e != api.OK || f != api.OK {
			t.Fatalf("Encode and Bounds by %v = %d, %d", s, e, f)
		}
		want := plainOrder(s, whole, low) >= 0 && (len(high) == 0 || plainOrder(s, whole, high) < 0)
		if keys.Within(key, lo, hi) != want {
			t.Errorf("Within(%x, %x, %x) = %v", key, lo, hi, !want)
		}
		if want {
			within++
		}
	}
	if within < 10000 || within > 90000 {
		t.Errorf("%d lay within", within)
	}
}

// P7.5: arguments stay as they are, what lies behind their length too.
func TestArgumentsStay(t *testing.T) {
	s := keyed(api.KStr, api.KBytes, api.KI16)
	cols := slices.Clone(s.Cols)
	room := []byte("abcdefgh\x00\x00ij")
	cells := []api.Cell{{B: room[:2]}, {B: room[3:9]}, {Int: -2}, {Int: 99, B: room[:1]}}
	before, same0 := cloned(cells), bytes.Clone(room)
	keys.Encode(s, cells[:3])
	keys.Encode(s, cells[:2])
	keys.Encode(s, cells)
	keys.Bounds(s, cells[:1], cells[:2])
	keys.Next(room[:3])
	keys.Within(room[:2], room[:1], room[:5])
	key, _ := keys.Encode(s, cells[:3])
	want := bytes.Clone(key)
	for cut := range len(key) + 1 {
		keys.Decode(s, key[:cut])
		keys.Next(key[:cut])
	}
	if !slices.EqualFunc(cells, before, same) || !bytes.Equal(room, same0) || !bytes.Equal(key, want) || !slices.Equal(s.Cols, cols) {
		t.Errorf("the arguments became %v, %x, %x, %v", cells, room, key, s)
	}
}

// P7.5, P2: an answer that is written over, or an argument behind the call, is no matter to another answer.
func TestAnswersAreNew(t *testing.T) {
	for _, kind := range kinds {
		s := keyed(kind)
		for _, c := range ascending(kind) {
			want := plainCell(kind, c)
			c.B = roomy(c.B)
			a, _ := keys.Encode(s, []api.Cell{c})
			b, _ := keys.Encode(s, []api.Cell{c})
			lo, hi, _ := keys.Bounds(s, []api.Cell{c}, []api.Cell{c})
			fill(c.B, 7)
			for i, x := range [][]byte{a, b, lo, hi} {
				if !bytes.Equal(x, want) {
					t.Errorf("kind %d: answer %d became %x; want %x", kind, i, x, want)
				}
				fill(x, 0xaa)
			}
			if room := c.B[:cap(c.B)]; bytes.Count(room, []byte{7}) != len(room) {
				t.Errorf("kind %d: the text became %x", kind, room)
			}
		}
	}
}

// P7.5: the cells that are read share nothing with the bytes, nor with one another.
func TestCellsAreNew(t *testing.T) {
	for _, some := range [][]int{{api.KStr, api.KStr, api.KStr}, {api.KBytes, api.KBytes, api.KBytes}, {api.KStr, api.KBytes, api.KStr}, {api.KBytes, api.KStr, api.KBytes}} {
		s := keyed(some...)
		for _, x := range []string{"", "a", "hi", "hi there"} {
			want := []api.Cell{text(x), text(x), text(x)}
			b := roomy(plainEncode(s, want))
			before := bytes.Clone(b[:cap(b)])
			cells, _ := keys.Decode(s, b)
			other, _ := keys.Decode(s, b)
			for i := range other {
				fill(other[i].B, 0xcc)
			}
			if !bytes.Equal(b[:cap(b)], before) {
				t.Errorf("the bytes became %x", b[:cap(b)])
			}
			fill(b, 0xdd)
			for i, c := range cells {
				if string(c.B) != x {
					t.Errorf("cell %d became %x", i, c.B)
				}
				fill(c.B, 0xee)
			}
		}
	}
}

// P7.5: Next's answer is its own.
func TestNextIsNew(t *testing.T) {
	for _, x := range []string{"", "a", "abc"} {
		key := append(make([]byte, 0, 20), x...)
		next, other := keys.Next(key), keys.Next(key)
		fill(key, 7)
		fill(other, 8)
		if string(next) != x+"\x00" {
			t.Errorf("Next(%x) became %x", x, next)
		}
		fill(next, 9)
		if room := key[:20]; bytes.Count(room, []byte{7}) != len(room) {
			t.Errorf("the key became %x", room)
		}
	}
}
