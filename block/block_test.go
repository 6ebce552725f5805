package block_test

import (
	"bytes"
	"hash/crc32"
	"math"
	"math/big"
	"math/rand/v2"
	"slices"
	"testing"

	"stoa/api"
	"stoa/block"
	"stoa/cell"
	"stoa/dict"
	"stoa/packed"
	"stoa/prefix"
	"stoa/runs"
)

// The helpers beneath say in the plainest way what the chapter says. Where the chapter names a call of another layer for a codec or for a cell, they ask that one.

var kinds = []int{api.KI8, api.KI16, api.KI32, api.KI64, api.KU16, api.KBool, api.KStr, api.KBytes}

// noKinds are such that are a kind in their lowest bits, too.
var noKinds = []int{math.MinInt, math.MinInt + 1, -256 + 7, -8, -1, 0, 9, 10, 15, 16, 17, 255, 256, 257, 263, math.MaxInt}

var codecs = []int{api.CPlain, api.CRuns, api.CPacked, api.CDict, api.CPrefix}

// noCodecs are such that are a codec in their lowest bits, too.
var noCodecs = []int{math.MinInt, math.MinInt + 1, -255, -1, 0, 6, 7, 17, 33, 255, 256, 257, 258, 259, 260, 261, 65537, math.MaxInt}

// spans are the least and the greatest number of each kind of numbers.
var spans = map[int][2]int64{
	api.KI8:   {-128, 127},
	api.KI16:  {-32768, 32767},
	api.KI32:  {-2147483648, 2147483647},
	api.KI64:  {-9223372036854775808, 9223372036854775807},
	api.KU16:  {0, 65535},
	api.KBool: {0, 1},
}

func number(v int64) api.Cell {
	return api.Cell{Int: v}
}

func numbers(vs ...int64) []api.Cell {
	var cells []api.Cell
	for _, v := range vs {
		cells = append(cells, number(v))
	}
	return cells
}

func text(s string) api.Cell {
	return api.Cell{B: []byte(s)}
}

func texts(ss ...string) []api.Cell {
	var cells []api.Cell
	for _, s := range ss {
		cells = append(cells, text(s))
	}
	return cells
}

var null = api.Cell{Null: true}

func isNumber(kind int) bool {
	return kind <= 6
}

func isFor(kind, codec int) bool {
	return codec == 1 || isNumber(kind) && (codec == 2 || codec == 3) || !isNumber(kind) && (codec == 4 || codec == 5)
}

// plainPut divides by 128 until nothing is left.
func plainPut(u uint64) []byte {
	var b []byte
	for ; u >= 128; u /= 128 {
		b = append(b, byte(u%128)+128)
	}
	return append(b, byte(u))
}

// plainGet takes a number from the beginning of b, and answers what is left.
func plainGet(b []byte) (uint64, []byte, api.Errno) {
	u := new(big.Int)
	for i, c := range b {
		if i == 9 && c > 1 {
			return 0, nil, api.ErrWide
		}
		u.Add(u, new(big.Int).Lsh(big.NewInt(int64(c%128)), uint(7*i)))
		if c == 0 && i > 0 {
			return 0, nil, api.ErrForm
		}
		if c < 128 {
			return u.Uint64(), b[i+1:], api.OK
		}
	}
	return 0, nil, api.ErrShort
}

// plainFold is 2v, or -2v - 1 below 0.
func plainFold(v int64) uint64 {
	u := new(big.Int).Mul(big.NewInt(v), big.NewInt(2))
	if v < 0 {
		u.Sub(u.Neg(u), big.NewInt(1))
	}
	return u.Uint64()
}

func plainUnfold(u uint64) int64 {
	v := new(big.Int).SetUint64(u)
	if u%2 == 1 {
		v.Add(v, big.NewInt(1)).Neg(v)
	}
	return v.Quo(v, big.NewInt(2)).Int64()
}

// sealed is b with the library's sum behind.
func sealed(b []byte) []byte {
	sum := crc32.Checksum(b, crc32.MakeTable(crc32.Castagnoli))
	return append(slices.Clone(b), byte(sum), byte(sum>>8), byte(sum>>16), byte(sum>>24))
}

func isSealed(b []byte) bool {
	return len(b) >= 4 && bytes.Equal(b, sealed(b[:len(b)-4]))
}

// plainNulls is a 0, or a 1 and the cells' bits, eight to a byte.
func plainNulls(cells []api.Cell) []byte {
	row := make([]byte, (len(cells)+7)/8)
	mark := byte(0)
	for i, c := range cells {
		if c.Null {
			row[i/8] += 1 << (i % 8)
			mark = 1
		}
	}
	if mark == 0 {
		row = nil
	}
	return append([]byte{mark}, row...)
}

// plainValues writes the cells, none of them null.
func plainValues(kind, codec int, cells []api.Cell) ([]byte, api.Errno) {
	var vs []int64
	var ss [][]byte
	var plain []byte
	for _, c := range cells {
		vs = append(vs, c.Int)
		ss = append(ss, c.B)
		if isNumber(kind) {
			plain = append(plain, plainPut(plainFold(c.Int))...)
		} else {
			plain = append(plain, plainPut(uint64(len(c.B)))...)
			plain = append(plain, c.B...)
		}
	}
	switch codec {
	case 2:
		return runs.Encode(vs...)
	case 3:
		return packed.Encode(vs...)
	case 4:
		return dict.Encode(ss...)
	case 5:
		return prefix.Encode(ss...)
	}
	return plain, api.OK
}

// written is a block of cells that are right, however long it is.
func written(kind, codec int, cells []api.Cell) []byte {
	values, e := plainValues(kind, codec, slices.DeleteFunc(slices.Clone(cells), func(c api.Cell) bool { return c.Null }))
	if e != api.OK {
		panic("cells that aren't right")
	}
	return sealed(slices.Concat([]byte{byte(codec)}, plainPut(uint64(len(cells))), plainNulls(cells), values))
}

func plainCells(kind int, cells []api.Cell) api.Errno {
	for _, c := range cells {
		if e := cell.Check(kind, true, c); e != api.OK {
			return e
		}
	}
	return api.OK
}

func plainEncode(kind, codec int, cells []api.Cell) ([]byte, api.Errno) {
	switch {
	case kind < 1 || kind > 8:
		return nil, api.ErrArg
	case !isFor(kind, codec):
		return nil, api.ErrCodec
	case len(cells) > 4096:
		return nil, api.ErrLong
	}
	if e := plainCells(kind, cells); e != api.OK {
		return nil, e
	}
	b := written(kind, codec, cells)
	if len(b) > 65000 {
		return nil, api.ErrLong
	}
	return b, api.OK
}

// plainBest tries all codecs, the least number first.
func plainBest(kind int, cells []api.Cell) (int, []byte, api.Errno) {
	switch {
	case kind < 1 || kind > 8:
		return 0, nil, api.ErrArg
	case len(cells) > 4096:
		return 0, nil, api.ErrLong
	}
	if e := plainCells(kind, cells); e != api.OK {
		return 0, nil, e
	}
	best, least := 0, []byte(nil)
	for codec := 1; codec <= 5; codec++ {
		b, e := plainEncode(kind, codec, cells)
		if e == api.OK && (best == 0 || len(b) < len(least)) {
			best, least = codec, b
		}
	}
	if best == 0 {
		return 0, nil, api.ErrLong
	}
	return best, least, api.OK
}

func plainDecode(kind int, b []byte) ([]api.Cell, api.Errno) {
	switch {
	case kind < 1 || kind > 8:
		return nil, api.ErrArg
	case len(b) > 65000:
		return nil, api.ErrLong
	case !isSealed(b):
		return nil, api.ErrCorrupt
	case len(b) == 4:
		return nil, api.ErrShort
	}
	codec, b := int(b[0]), b[1:len(b)-4]
	if !isFor(kind, codec) {
		return nil, api.ErrCodec
	}
	n, b, e := plainGet(b)
	switch {
	case e != api.OK:
		return nil, e
	case n > 4096:
		return nil, api.ErrLong
	case len(b) == 0:
		return nil, api.ErrShort
	case b[0] > 1:
		return nil, api.ErrForm
	}
	nulls := make([]int, n)
	if b[0] == 1 {
		row := b[1:]
		if uint64(len(row))*8 < n {
			return nil, api.ErrShort
		}
		row = row[:(n+7)/8]
		there := false
		for k := range 8 * len(row) {
			bit := int(row[k/8]) >> (k % 8) & 1
			if uint64(k) < n {
				nulls[k] = bit
				there = there || bit == 1
			} else if bit == 1 {
				return nil, api.ErrForm
			}
		}
		if !there {
			return nil, api.ErrForm
		}
		b = b[len(row):]
	}
	return plainRest(kind, codec, b[1:], nulls)
}

// plainRest reads the cells that aren't null, and tells all of them.
func plainRest(kind, codec int, b []byte, nulls []int) ([]api.Cell, api.Errno) {
	there := 0
	for _, bit := range nulls {
		there += 1 - bit
	}
	values, e := plainPlain(kind, b, there)
	if codec != 1 {
		values, e = plainCoded(codec, b)
	}
	if e != api.OK {
		return nil, e
	}
	if len(values) != there {
		return nil, api.ErrForm
	}
	var cells []api.Cell
	for _, bit := range nulls {
		if bit == 1 {
			cells = append(cells, null)
		} else {
			cells = append(cells, values[0])
			values = values[1:]
		}
	}
	if e := plainCells(kind, cells); e != api.OK {
		return nil, e
	}
	return cells, api.OK
}

func plainPlain(kind int, b []byte, n int) ([]api.Cell, api.Errno) {
	var cells []api.Cell
	for range n {
		var u uint64
		var e api.Errno
		u, b, e = plainGet(b)
		switch {
		case e != api.OK:
			return nil, e
		case isNumber(kind):
			cells = append(cells, number(plainUnfold(u)))
			continue
		case u > 200:
			return nil, api.ErrLong
		case u > uint64(len(b)):
			return nil, api.ErrShort
		}
		cells = append(cells, text(string(b[:u])))
		b = b[u:]
	}
	if len(b) > 0 {
		return nil, api.ErrTrail
	}
	return cells, api.OK
}

func plainCoded(codec int, b []byte) ([]api.Cell, api.Errno) {
	var vs []int64
	var ss [][]byte
	var e api.Errno
	switch codec {
	case 2:
		vs, e = runs.Decode(b)
	case 3:
		vs, e = packed.Decode(b)
	case 4:
		ss, e = dict.Decode(b)
	case 5:
		ss, e = prefix.Decode(b)
	}
	cells := numbers(vs...)
	for _, s := range ss {
		cells = append(cells, text(string(s)))
	}
	return cells, e
}

// same takes a list that is nil for an empty one.
func same(x, y []api.Cell) bool {
	return slices.EqualFunc(x, y, func(a, b api.Cell) bool {
		return a.Null == b.Null && a.Int == b.Int && bytes.Equal(a.B, b.B)
	})
}

// short keeps what is told of long lists short.
func short[T any](list []T) []T {
	return list[:min(len(list), 40)]
}

func wantEncode(t *testing.T, kind, codec int, cells []api.Cell, want []byte, wantErr api.Errno) {
	t.Helper()
	b, e := block.Encode(kind, codec, cells...)
	if !bytes.Equal(b, want) || e != wantErr {
		t.Errorf("Encode(%d, %d, %d cells: %v) = %x, %d; want %x, %d", kind, codec, len(cells), short(cells), short(b), e, short(want), wantErr)
	}
}

func wantBest(t *testing.T, kind int, cells []api.Cell, want int, wantB []byte, wantErr api.Errno) {
	t.Helper()
	codec, b, e := block.Best(kind, cells...)
	if codec != want || !bytes.Equal(b, wantB) || e != wantErr {
		t.Errorf("Best(%d, %d cells: %v) = %d, %x, %d; want %d, %x, %d", kind, len(cells), short(cells), codec, short(b), e, want, short(wantB), wantErr)
	}
}

func wantDecode(t *testing.T, kind int, b []byte, want []api.Cell, wantErr api.Errno) {
	t.Helper()
	cells, e := block.Decode(kind, b)
	if !same(cells, want) || e != wantErr {
		t.Errorf("Decode(%d, %d bytes: %x) = %v, %d; want %v, %d", kind, len(b), short(b), short(cells), e, short(want), wantErr)
	}
}

// wantWrong is for what stands ahead of a sum.
func wantWrong(t *testing.T, kind int, body string, wantErr api.Errno) {
	t.Helper()
	wantDecode(t, kind, sealed([]byte(body)), nil, wantErr)
	if _, e := plainDecode(kind, sealed([]byte(body))); e != wantErr {
		t.Errorf("plainDecode(%d, %x) = %d; want %d", kind, body, e, wantErr)
	}
}

// wantAll holds all calls for these cells against the plain readings, there and back.
func wantAll(t *testing.T, kind int, cells []api.Cell) {
	t.Helper()
	for _, codec := range codecs {
		b, e := plainEncode(kind, codec, cells)
		wantEncode(t, kind, codec, cells, b, e)
		if e == api.OK {
			wantDecode(t, kind, b, cells, api.OK)
		}
	}
	codec, b, e := plainBest(kind, cells)
	wantBest(t, kind, cells, codec, b, e)
}

// wantRefused: neither call writes these cells.
func wantRefused(t *testing.T, kind int, cells []api.Cell, wantErr api.Errno) {
	t.Helper()
	for _, codec := range codecs {
		if isFor(kind, codec) {
			wantEncode(t, kind, codec, cells, nil, wantErr)
		}
	}
	wantBest(t, kind, cells, 0, nil, wantErr)
}

// wantOnly holds Decode against the plain reading of bytes with a right sum; what is decoded is written in no other way by that codec.
func wantOnly(t *testing.T, kind int, body []byte) {
	t.Helper()
	b := sealed(body)
	want, wantErr := plainDecode(kind, b)
	wantDecode(t, kind, b, want, wantErr)
	if wantErr == api.OK {
		wantEncode(t, kind, int(b[0]), want, b, api.OK)
	}
}

// P12.1: the chapter's examples, and others worked out by hand.
func TestExamples(t *testing.T) {
	for _, x := range []struct {
		kind  int
		cells []api.Cell
		b     string
	}{
		{api.KI8, []api.Cell{number(7), null, number(7)}, "\x02\x03\x01\x02\x01\x0e\x02"},
		{api.KI8, numbers(7, 7, 7), "\x01\x03\x00\x0e\x0e\x0e"},
		{api.KI8, numbers(7, 7, 7), "\x02\x03\x00\x01\x0e\x03"},
		{api.KI8, numbers(7, 7, 7), "\x03\x03\x00\x03\x0e\x00"},
		{api.KI8, numbers(7, 7, 7, 7), "\x02\x04\x00\x01\x0e\x04"},
		{api.KI8, numbers(-128, 127), "\x01\x02\x00\xff\x01\xfe\x01"},
		{api.KI16, numbers(-1, 300), "\x01\x02\x00\x01\xd8\x04"},
		{api.KI64, numbers(math.MinInt64), "\x01\x01\x00\xff\xff\xff\xff\xff\xff\xff\xff\xff\x01"},
		{api.KU16, numbers(10, 12, 11), "\x03\x03\x00\x03\x14\x02\x18"},
		{api.KBool, []api.Cell{number(1), null, null, number(0)}, "\x01\x04\x01\x06\x02\x00"},
		{api.KBool, []api.Cell{null}, "\x01\x01\x01\x01"},
		{api.KBool, []api.Cell{null}, "\x02\x01\x01\x01\x00"},
		{api.KBool, []api.Cell{null}, "\x03\x01\x01\x01\x00"},
		{api.KStr, texts("hi", ""), "\x01\x02\x00\x02hi\x00"},
		{api.KStr, []api.Cell{text("b"), null, text("a"), text("b")}, "\x04\x04\x01\x02\x02\x01a\x01b\x03\x05"},
		{api.KStr, []api.Cell{null, text("ab"), text("abc"), null, text("b")}, "\x05\x05\x01\x09\x03\x00\x02ab\x02\x01c\x00\x01b"},
		{api.KBytes, texts("\x00", "\xff"), "\x01\x02\x00\x01\x00\x01\xff"},
		{api.KBytes, []api.Cell{null}, "\x04\x01\x01\x01\x00\x00"},
		{api.KBytes, []api.Cell{null}, "\x05\x01\x01\x01\x00"},
		{api.KBytes, slices.Concat(slices.Repeat([]api.Cell{null}, 8), texts(""), []api.Cell{null}), "\x01\x0a\x01\xff\x02\x00"},
	} {
		b := sealed([]byte(x.b))
		wantEncode(t, x.kind, int(x.b[0]), x.cells, b, api.OK)
		wantDecode(t, x.kind, b, x.cells, api.OK)
	}
	wantEncode(t, api.KI8, api.CRuns, []api.Cell{number(7), null, number(7)}, []byte("\x02\x03\x01\x02\x01\x0e\x02\x09\xc4\x53\x68"), api.OK)
	wantEncode(t, api.KStr, api.CRuns, nil, nil, api.ErrCodec)
	wantEncode(t, api.KStr, api.CRuns, texts("a"), nil, api.ErrCodec)
	wantBest(t, api.KI8, numbers(7, 7, 7), api.CPlain, sealed([]byte("\x01\x03\x00\x0e\x0e\x0e")), api.OK)
	wantBest(t, api.KI8, numbers(7, 7, 7, 7), api.CRuns, sealed([]byte("\x02\x04\x00\x01\x0e\x04")), api.OK)
}

// P12.1, P12.3: the codec that is the best one, and of several that are the one of the least number. The sizes are those of the cells that aren't null; all else is as long for each codec.
func TestBestCodec(t *testing.T) {
	for _, x := range []struct {
		kind  int
		cells []api.Cell
		want  int
		sizes [3]int
	}{
		{api.KI8, nil, api.CPlain, [3]int{0, 1, 1}},
		{api.KI8, []api.Cell{null, null}, api.CPlain, [3]int{0, 1, 1}},
		{api.KI8, numbers(1, 2, 3), api.CPlain, [3]int{3, 7, 4}},
		{api.KI8, numbers(1, 2, 1, 2), api.CPlain, [3]int{4, 9, 4}},
		{api.KI8, numbers(1, 2, 1, 2, 1), api.CPacked, [3]int{5, 11, 4}},
		{api.KI8, numbers(1, 1, 1), api.CPlain, [3]int{3, 3, 3}},
		{api.KI8, numbers(1, 1, 1, 1), api.CRuns, [3]int{4, 3, 3}},
		{api.KI16, numbers(0, 300), api.CPlain, [3]int{3, 6, 6}},
		{api.KI16, numbers(0, 0, 0, 0, 300, 300), api.CRuns, [3]int{8, 6, 10}},
		{api.KI64, numbers(1<<40, 1<<40+1), api.CPacked, [3]int{12, 15, 9}},
		{api.KI64, numbers(1<<40, 1<<40), api.CRuns, [3]int{12, 8, 8}},
		{api.KU16, []api.Cell{number(7), null, null, number(7), number(7)}, api.CPlain, [3]int{3, 3, 3}},
		{api.KU16, []api.Cell{number(7), null, null, number(7), number(7), number(7)}, api.CRuns, [3]int{4, 3, 3}},
		{api.KStr, nil, api.CPlain, [3]int{0, 2, 1}},
		{api.KStr, []api.Cell{null, null}, api.CPlain, [3]int{0, 2, 1}},
		{api.KStr, texts("a", "b"), api.CPlain, [3]int{4, 7, 7}},
		{api.KStr, texts("a", "a"), api.CPlain, [3]int{4, 4, 6}},
		{api.KStr, texts("ab", "ab"), api.CDict, [3]int{6, 5, 7}},
		{api.KStr, texts("abc", "abcd"), api.CPlain, [3]int{9, 12, 9}},
		{api.KStr, texts("abcd", "abcde"), api.CPrefix, [3]int{11, 14, 10}},
		{api.KBytes, texts("abcd", "abcd", "abxy"), api.CDict, [3]int{15, 13, 13}},
		{api.KBytes, texts("abcd", "abcd", "abcx"), api.CPrefix, [3]int{15, 13, 12}},
		{api.KBytes, []api.Cell{text("ab"), null, text("ab"), null}, api.CDict, [3]int{6, 5, 7}},
	} {
		codec, b, e := block.Best(x.kind, x.cells...)
		if codec != x.want || e != api.OK {
			t.Errorf("Best(%d, %v) = %d, %x, %d; want %d", x.kind, x.cells, codec, b, e, x.want)
		}
		all := []int{api.CPlain, api.CRuns, api.CPacked}
		if !isNumber(x.kind) {
			all = []int{api.CPlain, api.CDict, api.CPrefix}
		}
		for i, codec := range all {
			b, _ := block.Encode(x.kind, codec, x.cells...)
			if want := 6 + len(plainNulls(x.cells)) + x.sizes[i]; len(b) != want {
				t.Errorf("Encode(%d, %d, %v) has %d bytes; want %d", x.kind, codec, x.cells, len(b), want)
			}
		}
		wantAll(t, x.kind, x.cells)
	}
}

// P12.1: no cells.
func TestNothing(t *testing.T) {
	for codec, body := range []string{"", "\x01\x00\x00", "\x02\x00\x00\x00", "\x03\x00\x00\x00", "\x04\x00\x00\x00\x00", "\x05\x00\x00\x00"} {
		for _, kind := range kinds {
			if !isFor(kind, codec) {
				continue
			}
			wantEncode(t, kind, codec, nil, sealed([]byte(body)), api.OK)
			wantEncode(t, kind, codec, []api.Cell{}, sealed([]byte(body)), api.OK)
			wantDecode(t, kind, sealed([]byte(body)), nil, api.OK)
			wantWrong(t, kind, body+"\x00", api.ErrTrail)
			wantWrong(t, kind, body[:2]+"\x01"+body[3:], api.ErrForm)
		}
	}
	for _, kind := range kinds {
		wantBest(t, kind, nil, api.CPlain, sealed([]byte("\x01\x00\x00")), api.OK)
		wantBest(t, kind, []api.Cell{}, api.CPlain, sealed([]byte("\x01\x00\x00")), api.OK)
		wantWrong(t, kind, "", api.ErrShort)
		wantDecode(t, kind, nil, nil, api.ErrCorrupt)
		wantDecode(t, kind, []byte{}, nil, api.ErrCorrupt)
		wantDecode(t, kind, []byte{0}, nil, api.ErrCorrupt)
		wantDecode(t, kind, []byte{0, 0, 0}, nil, api.ErrCorrupt)
		wantDecode(t, kind, []byte{0, 0, 0, 0}, nil, api.ErrShort)
		wantDecode(t, kind, []byte{0, 0, 0, 0, 0}, nil, api.ErrCorrupt)
	}
}

// P1, P12.1: no kind, whatever else is wrong.
func TestNoKind(t *testing.T) {
	many := make([]api.Cell, 4097)
	b := written(api.KI8, api.CPlain, numbers(7))
	for _, kind := range noKinds {
		for _, codec := range slices.Concat(codecs, noCodecs) {
			wantEncode(t, kind, codec, nil, nil, api.ErrArg)
			wantEncode(t, kind, codec, numbers(7), nil, api.ErrArg)
			wantEncode(t, kind, codec, many, nil, api.ErrArg)
		}
		wantBest(t, kind, nil, 0, nil, api.ErrArg)
		wantBest(t, kind, numbers(7), 0, nil, api.ErrArg)
		wantBest(t, kind, many, 0, nil, api.ErrArg)
		for _, x := range [][]byte{nil, b, b[:5], sealed(nil), sealed([]byte{9}), make([]byte, 65001)} {
			wantDecode(t, kind, x, nil, api.ErrArg)
		}
	}
}

// P1, P12.1: no codec, or not one for the kind, ahead of all that is wrong about cells and behind them.
func TestNoCodec(t *testing.T) {
	many := make([]api.Cell, 4097)
	wrong := []api.Cell{{Null: true, Int: 1}}
	for _, kind := range kinds {
		for _, codec := range slices.Concat(codecs, noCodecs) {
			if isFor(kind, codec) {
				continue
			}
			for _, cells := range [][]api.Cell{nil, {null}, numbers(7), texts("a"), many, wrong} {
				wantEncode(t, kind, codec, cells, nil, api.ErrCodec)
			}
		}
		for c := range 256 {
			if isFor(kind, c) {
				continue
			}
			for _, behind := range []string{"", "\x00\x00", "\x80\x00", "\x81\x20", "\x00\x02", "\x00\x00\x00\x00"} {
				wantWrong(t, kind, string([]byte{byte(c)})+behind, api.ErrCodec)
			}
		}
	}
}

// P12.1: the least and the greatest number of each kind, and those behind them, by each codec.
func TestSpans(t *testing.T) {
	for kind, span := range spans {
		least, most := span[0], span[1]
		wantAll(t, kind, numbers(least))
		wantAll(t, kind, numbers(most))
		wantAll(t, kind, numbers(least, most, most, least, 0, 1))
		wantAll(t, kind, []api.Cell{null, number(least), null, null, number(most)})
		if kind == api.KI64 {
			continue
		}
		for _, v := range []int64{least - 1, most + 1, least - 256, most + 256, least - 1<<32, most + 1<<32, math.MinInt64, math.MaxInt64} {
			for _, cells := range [][]api.Cell{numbers(v), numbers(0, v), numbers(v, 0), {null, number(v)}, numbers(v, v, v, v, v)} {
				wantRefused(t, kind, cells, api.ErrRange)
				for _, codec := range codecs[:3] {
					wantDecode(t, kind, written(kind, codec, cells), nil, api.ErrRange)
				}
			}
		}
	}
}

// P12.1: the zero byte may stand in bytes, in a text it may not.
func TestZeroBytes(t *testing.T) {
	for _, cells := range [][]api.Cell{texts("\x00"), texts("a", "b\x00"), texts("\x00\x00", "", "\x00\x00"), {null, text("a\x00a")}, texts("ab", "ab\x00")} {
		wantAll(t, api.KBytes, cells)
		wantRefused(t, api.KStr, cells, api.ErrForm)
		for _, codec := range []int{api.CPlain, api.CDict, api.CPrefix} {
			wantDecode(t, api.KStr, written(api.KBytes, codec, cells), nil, api.ErrForm)
		}
	}
}

// P12.1: the first error of a cell.
func TestFirstCell(t *testing.T) {
	right := map[bool]api.Cell{true: number(1), false: text("a")}
	wrong := map[bool][]api.Cell{
		true:  {number(1 << 20), {Int: 1, B: []byte("a")}, {Null: true, Int: 1}, {Null: true, B: []byte("a")}, text("a")},
		false: {text("a\x00"), text(string(bytes.Repeat([]byte("a"), 201))), {Int: 1, B: []byte("a")}, {Null: true, Int: 1}, {Null: true, B: []byte("a")}, number(1)},
	}
	for _, kind := range []int{api.KI8, api.KI16, api.KU16, api.KBool, api.KStr} {
		ok := right[isNumber(kind)]
		for _, first := range wrong[isNumber(kind)] {
			e := cell.Check(kind, true, first)
			if e == api.OK {
				t.Fatalf("%v is right", first)
			}
			wantRefused(t, kind, []api.Cell{first}, e)
			wantRefused(t, kind, append(slices.Repeat([]api.Cell{ok}, 4095), first), e)
			wantRefused(t, kind, append(slices.Repeat([]api.Cell{ok}, 4096), first), api.ErrLong)
			wantRefused(t, kind, slices.Repeat([]api.Cell{first}, 4097), api.ErrLong)
			for _, second := range wrong[isNumber(kind)] {
				wantRefused(t, kind, []api.Cell{first, second}, e)
				wantRefused(t, kind, []api.Cell{ok, null, first, ok, second, null}, e)
			}
		}
	}
}

// P12.1: lists of a cell that are nil are empty ones, and a cell of no bytes is no null.
func TestNilTexts(t *testing.T) {
	cells := []api.Cell{{}, {B: []byte{}}, {Null: true, B: []byte{}}, text("a")}
	plain := []api.Cell{text(""), text(""), null, text("a")}
	for _, codec := range []int{api.CPlain, api.CDict, api.CPrefix} {
		wantEncode(t, api.KStr, codec, cells, written(api.KStr, codec, plain), api.OK)
	}
	wantEncode(t, api.KI8, api.CRuns, cells[:3], written(api.KI8, api.CRuns, []api.Cell{number(0), number(0), null}), api.OK)
	got, e := block.Decode(api.KStr, written(api.KStr, api.CDict, plain))
	if e != api.OK || len(got) != 4 || got[0].Null || !got[2].Null || got[2].B != nil {
		t.Errorf("%v, %d", got, e)
	}
}

// P12.1, P12.2: every way to have nulls among up to ten cells.
func TestAllNulls(t *testing.T) {
	for _, n := range []int{1, 2, 7, 8, 9, 10} {
		for which := range 1 << n {
			ns, ss := make([]api.Cell, n), make([]api.Cell, n)
			for i := range n {
				ns[i], ss[i] = number(int64(i/3)), text("abc"[:i%4])
				if which>>i&1 == 1 {
					ns[i], ss[i] = null, null
				}
			}
			wantAll(t, api.KU16, ns)
			wantAll(t, api.KStr, ss)
		}
	}
}

// P12.1, P12.2: as many cells as may be, and one more.
func TestManyCells(t *testing.T) {
	for _, kind := range []int{api.KBool, api.KI64, api.KStr} {
		for _, n := range []int{127, 128, 129, 4095, 4096} {
			cells := make([]api.Cell, n)
			wantAll(t, kind, cells)
			for i := range cells {
				if isNumber(kind) {
					cells[i].Int = int64(i % 2)
				} else {
					cells[i].B = []byte("abc"[:i%4])
				}
			}
			wantAll(t, kind, cells)
			cells[n-1] = null
			wantAll(t, kind, cells)
			wantAll(t, kind, slices.Repeat([]api.Cell{null}, n))
		}
		for _, n := range []int{4097, 4098, 8192, 1 << 17} {
			wantRefused(t, kind, make([]api.Cell, n), api.ErrLong)
			wantRefused(t, kind, slices.Repeat([]api.Cell{null}, n), api.ErrLong)
		}
	}
	for _, codec := range codecs {
		kind := map[bool]int{true: api.KI8, false: api.KBytes}[codec <= 3]
		head := string([]byte{byte(codec)})
		for _, count := range []uint64{4097, 4098, 1 << 31, 1 << 32, 1<<32 + 1, 1<<32 + 3, 1 << 63, math.MaxUint64} {
			for _, behind := range []string{"", "\x00", "\x02", "\x01\x00", "\x00\x00\x00\x00", string(make([]byte, 5000))} {
				wantWrong(t, kind, head+string(plainPut(count))+behind, api.ErrLong)
			}
		}
	}
}

// P12.1: numbers of ten bytes each, by all codecs: no block of numbers is too long.
func TestLongNumbers(t *testing.T) {
	cells := make([]api.Cell, 4096)
	for i := range cells {
		cells[i].Int = math.MaxInt64 - int64(i%3)
		if i%2 == 0 {
			cells[i].Int = math.MinInt64 + int64(i%5)
		}
	}
	wantAll(t, api.KI64, cells)
	for _, codec := range codecs[:3] {
		if _, e := block.Encode(api.KI64, codec, cells...); e != api.OK {
			t.Errorf("codec %d: %d", codec, e)
		}
	}
}

// unlikeTexts are n texts of 200 bytes each, of which no two begin alike for long.
func unlikeTexts(rnd *rand.Rand, n int) []api.Cell {
	cells := make([]api.Cell, n)
	for i := range cells {
		b := make([]byte, 200)
		for k := range b {
			b[k] = byte(1 + rnd.IntN(255))
		}
		cells[i].B = b
	}
	return cells
}

// withLength is the first of the texts, the last one of them shortened, such that their block has just so many bytes.
func withLength(t *testing.T, codec, want int, cells []api.Cell) []api.Cell {
	t.Helper()
	for n := want / 210; n <= len(cells); n++ {
		part := slices.Clone(cells[:n])
		for range 4 {
			over := len(written(api.KBytes, codec, part)) - want
			left := len(part[n-1].B) - over
			if over == 0 {
				return part
			}
			if left < 0 || left > 200 {
				break
			}
			part[n-1].B = cells[n-1].B[:left]
		}
	}
	t.Fatalf("no block of %d bytes", want)
	return nil
}

// P12.1: blocks as long as may be, and longer ones.
func TestLongBlocks(t *testing.T) {
	rnd := rand.New(rand.NewPCG(12, 1))
	stock := unlikeTexts(rnd, 400)
	for _, codec := range []int{api.CPlain, api.CDict, api.CPrefix} {
		for _, nulls := range []int{0, 40} {
			for _, size := range []int{64996, 64999, 65000, 65001, 65004, 65005} {
				cells := withLength(t, codec, size, slices.Concat(slices.Repeat([]api.Cell{null}, nulls), stock))
				b := written(api.KStr, codec, cells)
				if size <= 65000 {
					wantEncode(t, api.KStr, codec, cells, b, api.OK)
					wantDecode(t, api.KStr, b, cells, api.OK)
				} else {
					wantEncode(t, api.KStr, codec, cells, nil, api.ErrLong)
					wantDecode(t, api.KStr, b, nil, api.ErrLong)
				}
				if codec == api.CPlain {
					wantAll(t, api.KStr, cells)
				}
			}
		}
	}
	all := unlikeTexts(rnd, 4096)
	wantRefused(t, api.KBytes, all, api.ErrLong)
	all[4095].Int = 1
	wantRefused(t, api.KBytes, all, api.ErrKind)
}

// P12.1: a codec may have a block where another one's is too long.
func TestBestOfLong(t *testing.T) {
	rnd := rand.New(rand.NewPCG(12, 2))
	one := slices.Repeat(unlikeTexts(rnd, 1), 4096)
	wantEncode(t, api.KStr, api.CPlain, one, nil, api.ErrLong)
	wantBest(t, api.KStr, one, api.CDict, written(api.KStr, api.CDict, one), api.OK)
	wantAll(t, api.KStr, one)

	mixed := slices.Clone(one)
	for i, c := range unlikeTexts(rnd, 200) {
		mixed[20*i] = c
	}
	wantEncode(t, api.KStr, api.CPlain, mixed, nil, api.ErrLong)
	wantAll(t, api.KStr, mixed)

	// Each text begins as the one ahead does, and ends in another way.
	close := slices.Clone(one)
	for i := range close {
		close[i].B = append(slices.Clone(one[0].B[:190]), byte(1+i/255), byte(1+i%255))
	}
	wantEncode(t, api.KStr, api.CPlain, close, nil, api.ErrLong)
	wantEncode(t, api.KStr, api.CDict, close, nil, api.ErrLong)
	wantBest(t, api.KStr, close[:3000], api.CPrefix, written(api.KStr, api.CPrefix, close[:3000]), api.OK)
	wantAll(t, api.KStr, close)
}

// P1, P12.1: what is too long, ahead of a wrong sum; a wrong sum ahead of all behind it.
func TestLongAndCorrupt(t *testing.T) {
	for _, kind := range kinds {
		for _, n := range []int{65001, 65002, 65004, 65536, 1 << 20} {
			b := bytes.Repeat([]byte{1}, n)
			wantDecode(t, kind, b, nil, api.ErrLong)
			wantDecode(t, kind, sealed(b[4:]), nil, api.ErrLong)
		}
		wantDecode(t, kind, bytes.Repeat([]byte{1}, 65000), nil, api.ErrCorrupt)
		wantDecode(t, kind, make([]byte, 65000), nil, api.ErrCorrupt)
		wantDecode(t, kind, sealed(bytes.Repeat([]byte{9}, 64996)), nil, api.ErrCodec)
		for _, body := range []string{"\x09", "\x01", "\x01\x80\x00", "\x01\x81\x20", "\x01\x01\x02", "\x01\x00\x00\x00", "\x01\x00\x00"} {
			b := sealed([]byte(body))
			b[len(b)-1] ^= 0x10
			wantDecode(t, kind, b, nil, api.ErrCorrupt)
			wantDecode(t, kind, b[:len(b)-1], nil, api.ErrCorrupt)
			wantDecode(t, kind, []byte(body), nil, api.ErrCorrupt)
		}
	}
	// Another sum, or this one the other way round, is none.
	b := written(api.KI8, api.CPlain, numbers(1, 2, 3))
	n := len(b) - 4
	slices.Reverse(b[n:])
	wantDecode(t, api.KI8, b, nil, api.ErrCorrupt)
	sum := crc32.ChecksumIEEE(b[:n])
	wantDecode(t, api.KI8, append(b[:n:n], byte(sum), byte(sum>>8), byte(sum>>16), byte(sum>>24)), nil, api.ErrCorrupt)
}

// P12.1: the error of each number in the bytes.
func TestDecodeNumbers(t *testing.T) {
	wide := string(bytes.Repeat([]byte{0xff}, 9)) + "\x02"
	for _, x := range []struct {
		b string
		e api.Errno
	}{{"", api.ErrShort}, {"\x80", api.ErrShort}, {"\x80\x00", api.ErrForm}, {"\x81\x00", api.ErrForm}, {wide, api.ErrWide}} {
		for _, ahead := range []string{"\x01", "\x01\x01\x00", "\x01\x02\x00\x02", "\x01\x02\x01\x01", "\x02", "\x02\x01\x00", "\x02\x02\x01\x02", "\x02\x01\x00\x01", "\x02\x01\x00\x01\x02", "\x03", "\x03\x01\x00", "\x03\x02\x01\x01", "\x03\x01\x00\x01"} {
			wantWrong(t, api.KI8, ahead+x.b, x.e)
		}
		for _, ahead := range []string{"\x01", "\x01\x01\x00", "\x01\x02\x00\x01a", "\x01\x02\x01\x02", "\x04", "\x04\x01\x00", "\x04\x02\x01\x02", "\x04\x01\x00\x01", "\x04\x01\x00\x01\x01a", "\x05", "\x05\x01\x00", "\x05\x02\x01\x02", "\x05\x01\x00\x01", "\x05\x01\x00\x01\x00"} {
			wantWrong(t, api.KStr, ahead+x.b, x.e)
		}
	}
}

// P12.1: every byte behind the number of cells, and every row of bits.
func TestDecodeNulls(t *testing.T) {
	for _, kind := range kinds {
		for c := range 256 {
			if c > 1 {
				mark := string([]byte{byte(c)})
				wantWrong(t, kind, "\x01\x00"+mark, api.ErrForm)
				wantWrong(t, kind, "\x01\x01"+mark, api.ErrForm)
				wantWrong(t, kind, "\x01\x01"+mark+"\x01\x00", api.ErrForm)
			}
			for n := range 10 {
				for _, behind := range []string{"", "\x00", "\x00\x00\x00\x00", "\x01\x00", "\x02\x00", "\x03\x00\x00", "\x00\x00\x00\x00\x00\x00\x00\x00\x00"} {
					wantOnly(t, kind, slices.Concat([]byte{1, byte(n), 1, byte(c)}, []byte(behind)))
				}
			}
		}
	}
	for n := 1; n <= 4096; n += 501 {
		head := string(slices.Concat([]byte{2}, plainPut(uint64(n)), []byte{1}))
		row := make([]byte, (n+7)/8)
		row[0] = 1
		wantWrong(t, api.KI8, head+string(row[:len(row)-1]), api.ErrShort)
		wantWrong(t, api.KI8, head+string(row), api.ErrShort)
		wantWrong(t, api.KI8, head+string(make([]byte, len(row))), api.ErrForm)
		wantOnly(t, api.KI8, slices.Concat([]byte(head), row, written(api.KI8, api.CRuns, make([]api.Cell, n-1))[len(head)-1:]))
	}
}

// P12.1: as many values as cells that aren't null, not one more or fewer, by each codec.
func TestHowManyValues(t *testing.T) {
	for _, kind := range []int{api.KI8, api.KStr} {
		for codec := 2; codec <= 5; codec++ {
			if !isFor(kind, codec) {
				continue
			}
			for there := range 12 {
				for told := range 12 {
					cells := make([]api.Cell, told)
					values, _ := plainValues(kind, codec, cells)
					for _, nulls := range []int{0, 1, 3} {
						all := slices.Concat(make([]api.Cell, there), slices.Repeat([]api.Cell{null}, nulls))
						body := slices.Concat([]byte{byte(codec)}, plainPut(uint64(len(all))), plainNulls(all), values)
						if there == told {
							wantDecode(t, kind, sealed(body), all, api.OK)
						} else {
							wantDecode(t, kind, sealed(body), nil, api.ErrForm)
						}
						wantOnly(t, kind, body)
					}
				}
			}
		}
	}
}

// P12.1: texts as long as may be, and longer.
func TestLongTexts(t *testing.T) {
	for _, n := range []int{127, 128, 199, 200} {
		s := string(bytes.Repeat([]byte("x"), n))
		wantAll(t, api.KStr, texts(s))
		wantAll(t, api.KBytes, texts(s, "", s, s[1:]))
	}
	for _, n := range []uint64{201, 202, 255, 256, 1 << 16} {
		s := string(bytes.Repeat([]byte("x"), int(n)))
		wantRefused(t, api.KStr, texts(s), api.ErrLong)
		wantRefused(t, api.KBytes, texts("a", s), api.ErrLong)
		if n < 65000 {
			wantWrong(t, api.KBytes, "\x01\x01\x00"+string(plainPut(n))+s, api.ErrLong)
			wantWrong(t, api.KBytes, "\x04\x01\x00\x01"+string(plainPut(n))+s+"\x01", api.ErrLong)
			wantWrong(t, api.KBytes, "\x05\x01\x00\x01\x00"+string(plainPut(n))+s, api.ErrLong)
		}
	}
	for _, n := range []uint64{1 << 31, 1<<31 + 1, 1 << 32, 1<<32 + 1, math.MaxInt64, 1 << 63, math.MaxUint64} {
		wantWrong(t, api.KStr, "\x01\x01\x00"+string(plainPut(n)), api.ErrLong)
		wantWrong(t, api.KStr, "\x01\x01\x00"+string(plainPut(n))+"a", api.ErrLong)
	}
}

// P1, P12.1: where several errors apply, the one named first.
func TestDecodeOrder(t *testing.T) {
	for _, x := range []struct {
		kind int
		b    string
		e    api.Errno
	}{
		{api.KI8, "\x04", api.ErrCodec},                              // not for this kind, and no number
		{api.KI8, "\x01\x81\x20", api.ErrLong},                       // 4097 cells, and no byte behind
		{api.KI8, "\x01\x81\x20\x02", api.ErrLong},                   // 4097 cells, and a byte above 1
		{api.KI8, "\x01\x81\x20\x01", api.ErrLong},                   // 4097 cells, and no bits
		{api.KI8, "\x01\x01", api.ErrShort},                          // no byte behind the number
		{api.KI8, "\x01\x01\x02", api.ErrForm},                       // above 1, and nothing behind it
		{api.KI8, "\x01\x09\x01\x00", api.ErrShort},                  // half of the bits, of which none is 1
		{api.KI8, "\x01\x01\x01", api.ErrShort},                      // no bits
		{api.KI8, "\x01\x01\x01\x02\x00", api.ErrForm},               // a bit of no cell
		{api.KI8, "\x01\x01\x01\x00\x80\x00", api.ErrForm},           // none is null, and a number in another form
		{api.KI8, "\x01\x01\x01\x00\x80", api.ErrForm},               // none is null, and half a number
		{api.KI8, "\x01\x01\x01\x03\x00", api.ErrForm},               // a bit of no cell, and bytes behind
		{api.KI8, "\x01\x01\x01\x01\x00", api.ErrTrail},              // nothing but null, and a byte behind
		{api.KI8, "\x01\x02\x00\x80\x02", api.ErrShort},              // 256 folded, and no second number
		{api.KI8, "\x01\x02\x00\x80\x02\x80\x00", api.ErrForm},       // 256 folded, and another form behind it
		{api.KI8, "\x01\x01\x00\x80\x02\x00", api.ErrTrail},          // 256 folded, and a byte behind
		{api.KI8, "\x01\x01\x00\x80\x02", api.ErrRange},              // 256 folded
		{api.KI8, "\x02\x01\x00\x01\x80\x02\x01\x00", api.ErrTrail},  // the same as a run
		{api.KI8, "\x02\x02\x00\x01\x80\x02\x01", api.ErrForm},       // one number for two cells, and out of range
		{api.KI8, "\x02\x02\x00\x01\x0e\x01\x00", api.ErrTrail},      // one number for two cells, and a byte behind
		{api.KI8, "\x02\x02\x00\x01\x0e\x81\x20", api.ErrLong},       // 4097 numbers for two cells
		{api.KI8, "\x02\x02\x00\x02\x0e\x01\x0e\x01", api.ErrForm},   // two runs of one value
		{api.KI8, "\x02\x01\x00\x01\x80\x02\x01", api.ErrRange},      // a run of 128
		{api.KI8, "\x03\x02\x00\x01\x80\x02\x00", api.ErrForm},       // one number for two cells, and out of range
		{api.KI8, "\x03\x02\x00\x01\x80\x02\x41", api.ErrForm},       // a width above 64
		{api.KI8, "\x03\x02\x00\x01\x80\x02", api.ErrShort},          // no width
		{api.KI8, "\x03\x02\x00\x01\x0e\x00\x00", api.ErrTrail},      // one number for two cells, and a byte behind
		{api.KI8, "\x03\x01\x00\x01\x80\x02\x00", api.ErrRange},      // the least is 128
		{api.KI8, "\x03\x02\x00\x02\xfe\x01\x01\x02", api.ErrRange},  // 127 and one above
		{api.KStr, "\x01\x01\x00\xc9\x01", api.ErrLong},              // 201 bytes, none of them there
		{api.KStr, "\x01\x01\x00\x02a", api.ErrShort},                // half a text
		{api.KStr, "\x01\x02\x00\x01\x00\x80\x00", api.ErrForm},      // a 0 in a text, and another form behind it
		{api.KStr, "\x01\x02\x00\x01\x00\xc9\x01", api.ErrLong},      // a 0 in a text, and one that is too long
		{api.KStr, "\x01\x02\x00\x01\x00\x02a", api.ErrShort},        // a 0 in a text, and half of one
		{api.KStr, "\x01\x01\x00\x01\x00a", api.ErrTrail},            // a 0 in a text, and a byte behind
		{api.KStr, "\x01\x01\x00\x01\x00", api.ErrForm},              // a 0 in a text
		{api.KStr, "\x04\x01\x00\x01\x01\x00\x01\x00", api.ErrTrail}, // a 0 in a text, and a byte behind
		{api.KStr, "\x04\x02\x00\x01\x01a\x01", api.ErrForm},         // one text for two cells
		{api.KStr, "\x04\x02\x00\x01\x01a\x81\x20", api.ErrLong},     // 4097 texts for two cells
		{api.KStr, "\x04\x02\x00\x01\x01a\x01\x00", api.ErrTrail},    // one text for two cells, and a byte behind
		{api.KStr, "\x05\x02\x00\x01\x00\x01a\x00", api.ErrTrail},    // one text for two cells, and a byte behind
		{api.KStr, "\x05\x02\x00\x81\x20", api.ErrLong},              // 4097 texts for two cells
		{api.KStr, "\x05\x01\x00\x01\x00\x01\x00\x00", api.ErrTrail}, // a 0 in a text, and a byte behind
		{api.KStr, "\x05\x01\x01\x01\x01\x00\x01a", api.ErrForm},     // a text for a null
		{api.KBytes, "\x04\x01\x01\x01\x01\x01a\x01", api.ErrForm},   // a text for a null
		{api.KBool, "\x01\x01\x00\x04", api.ErrRange},                // 2
		{api.KBool, "\x01\x01\x00\x01", api.ErrRange},                // -1
		{api.KBool, "\x01\x02\x01\x02\x04", api.ErrRange},            // 2, behind it null
		{api.KU16, "\x01\x01\x00\x80\x80\x08", api.ErrRange},         // 65536
		{api.KI16, "\x01\x01\x00\x80\x80\x04", api.ErrRange},         // 32768
		{api.KI32, "\x01\x01\x00\x80\x80\x80\x80\x10", api.ErrRange}, // 2 to the 31st
		{api.KI32, "\x01\x01\x00\x81\x80\x80\x80\x10", api.ErrRange}, // and one below the least
		{api.KI32, "\x01\x01\x00\x80\x80\x80\x80\x20", api.ErrRange}, // 2 to the 32nd
		{api.KI8, "\x01\x01\x00\xff\xff\xff\xff\xff\xff\xff\xff\xff\x01", api.ErrRange},
	} {
		wantWrong(t, x.kind, x.b, x.e)
	}
}

// someCells are n cells of a kind, such that all codecs have their turn.
func someCells(rnd *rand.Rand, kind, n int) []api.Cell {
	span := spans[kind]
	style, nulls := rnd.IntN(4), []int{0, 0, 1, 5}[rnd.IntN(4)]
	cells := make([]api.Cell, n)
	for i := range cells {
		switch {
		case rnd.IntN(10) < nulls:
			cells[i] = null
		case !isNumber(kind):
			cells[i] = text(someText(rnd, style))
		case style == 0:
			cells[i] = number([]int64{span[0], span[1], 0, 1}[rnd.IntN(4)])
		case style == 1 && kind != api.KBool:
			cells[i] = number(span[0]/2 + int64(rnd.IntN(5)))
		case style == 2 && i > 0 && rnd.IntN(5) > 0 && !cells[i-1].Null:
			cells[i] = cells[i-1]
		default:
			cells[i] = number(max(span[0], min(span[1], int64(rnd.Uint64())>>rnd.IntN(64))))
		}
	}
	return cells
}

func someText(rnd *rand.Rand, style int) string {
	switch style {
	case 0:
		return []string{"", "a", "one and the same", "another"}[rnd.IntN(4)]
	case 1:
		return "all begin alike"[:12+rnd.IntN(4)] + string([]byte{byte(1 + rnd.IntN(9))})
	}
	b := make([]byte, rnd.IntN(12))
	for i := range b {
		b[i] = byte(1 + rnd.IntN(255))
	}
	return string(b)
}

// P12.2, P3: what is cut off, and what is added, is told.
func TestDecodeCut(t *testing.T) {
	rnd := rand.New(rand.NewPCG(12, 3))
	for _, kind := range kinds {
		for range 4 {
			cells := someCells(rnd, kind, rnd.IntN(30))
			for _, codec := range codecs {
				if !isFor(kind, codec) {
					continue
				}
				b := written(kind, codec, cells)
				body := b[:len(b)-4]
				for n := range body {
					wantWrong(t, kind, string(body[:n]), api.ErrShort)
					wantDecode(t, kind, body[:n], nil, api.ErrCorrupt)
				}
				for c := range 256 {
					wantWrong(t, kind, string(body)+string([]byte{byte(c)}), api.ErrTrail)
					wantDecode(t, kind, append(slices.Clone(b), byte(c)), nil, api.ErrCorrupt)
				}
			}
		}
	}
}

// each does something for all lists of up to n letters.
func each(letters []byte, n int, do func(b []byte)) {
	last := [][]byte{{}}
	for range n {
		var next [][]byte
		for _, b := range last {
			for _, c := range letters {
				next = append(next, append(slices.Clone(b), c))
			}
		}
		for _, b := range next {
			do(b)
		}
		last = next
	}
}

// P12.1, P12.2, P3: all bytes of up to two behind each codec, and all of up to five from few at which something changes.
func TestAllShortBytes(t *testing.T) {
	for _, kind := range []int{api.KI8, api.KBool, api.KStr, api.KBytes} {
		for c := range 256 {
			wantOnly(t, kind, []byte{byte(c)})
			for _, codec := range codecs {
				wantOnly(t, kind, []byte{byte(codec), byte(c)})
				wantOnly(t, kind, []byte{byte(codec), 0x01, byte(c)})
				wantOnly(t, kind, []byte{byte(codec), 0x01, 0x00, byte(c)})
				wantOnly(t, kind, []byte{byte(codec), 0x02, 0x01, byte(c), 0x01, 0x00})
			}
			wantOnly(t, kind, []byte{0x01, 0x01, 0x00, 0x01, byte(c)})
			wantOnly(t, kind, []byte{0x01, 0x01, 0x00, byte(c), 0x01})
			wantOnly(t, kind, []byte{0x02, 0x01, 0x00, 0x01, byte(c), 0x01})
			wantOnly(t, kind, []byte{0x03, 0x01, 0x00, 0x01, byte(c), 0x00})
			wantOnly(t, kind, []byte{0x04, 0x01, 0x00, 0x01, 0x01, byte(c), 0x01})
			wantOnly(t, kind, []byte{0x05, 0x01, 0x00, 0x01, 0x00, 0x01, byte(c)})
		}
	}
	each([]byte{0x00, 0x01, 0x02, 0x04, 0x80}, 5, func(b []byte) {
		for _, codec := range codecs {
			kind := api.KStr
			if codec <= 3 {
				kind = api.KBool
			}
			wantOnly(t, kind, append([]byte{byte(codec)}, b...))
			wantOnly(t, kind, append([]byte{byte(codec), 0x03, 0x01, 0x02}, b...))
		}
		wantOnly(t, api.KStr, append([]byte{0x01}, b...))
	})
}

// P12.1, P12.2, P12.3: cells and bytes of all sorts.
func TestRandom(t *testing.T) {
	rnd := rand.New(rand.NewPCG(12, 4))
	best := map[int]int{}
	for range 60 {
		for _, kind := range kinds {
			cells := someCells(rnd, kind, rnd.IntN(60))
			wantAll(t, kind, cells)
			codec, b, e := block.Best(kind, cells...)
			if e != api.OK {
				t.Errorf("Best(%d, %v): %d", kind, cells, e)
			}
			best[codec]++
			for _, other := range codecs {
				x, e := block.Encode(kind, other, cells...)
				if e == api.OK && (len(x) < len(b) || len(x) == len(b) && other < codec) {
					t.Errorf("Best(%d, %v) is %d, not %d", kind, cells, codec, other)
				}
				if e != api.OK {
					continue
				}
				body := x[:len(x)-4]
				for range 10 {
					turned := slices.Clone(body)
					turned[rnd.IntN(len(turned))] ^= 1 << rnd.IntN(8)
					wantOnly(t, kind, turned)
				}
				for _, as := range kinds {
					wantOnly(t, as, body)
				}
			}
		}
	}
	for _, codec := range codecs {
		if best[codec] == 0 {
			t.Errorf("codec %d was never the best one", codec)
		}
	}
}

// wantTurned turns the bits of a run, each where mask has a 1.
func wantTurned(t *testing.T, kind int, b []byte, from int, mask uint64) {
	t.Helper()
	turned := slices.Clone(b)
	for k := range 32 {
		if place := from + k; mask>>k&1 == 1 && place < 8*len(b) {
			turned[place/8] ^= 1 << (place % 8)
		}
	}
	if !bytes.Equal(turned, b) {
		wantDecode(t, kind, turned, nil, api.ErrCorrupt)
	}
}

// P12.4, P6: any run of at most 32 bits that is turned.
func TestTurnedBits(t *testing.T) {
	rnd := rand.New(rand.NewPCG(12, 5))
	for _, x := range []struct {
		kind  int
		cells []api.Cell
	}{{api.KI8, nil}, {api.KI8, []api.Cell{number(7), null, number(7)}}, {api.KI64, numbers(1<<40, -5, 1<<40)}, {api.KStr, texts("ab", "abc", "ab")}, {api.KBytes, someCells(rnd, api.KBytes, 9)}} {
		for _, codec := range codecs {
			if !isFor(x.kind, codec) {
				continue
			}
			b := written(x.kind, codec, x.cells)
			for from := range 8 * len(b) {
				for size := 1; size <= 32; size++ {
					wantTurned(t, x.kind, b, from, 1<<size-1)
				}
				for range 20 {
					wantTurned(t, x.kind, b, from, 1|rnd.Uint64()>>32)
				}
			}
			for from := range 8*len(b) - 8 {
				for mask := uint64(1); mask < 256; mask += 2 {
					wantTurned(t, x.kind, b, from, mask)
				}
			}
		}
	}
	long := written(api.KBytes, api.CPlain, unlikeTexts(rnd, 320))
	for range 20 {
		wantTurned(t, api.KBytes, long, rnd.IntN(8*len(long)), 1|rnd.Uint64()>>32)
	}
}

const mark = 0xa5

// roomy is a text with room behind it that is filled.
func roomy(b []byte) []byte {
	all := slices.Concat(b, bytes.Repeat([]byte{mark}, 9))
	return all[:len(b)]
}

// roomyCells are cells with room behind each list of bytes, and behind their own.
func roomyCells(cells []api.Cell) []api.Cell {
	all := slices.Concat(cells, slices.Repeat(texts("\xa5"), 9))
	for i := range all {
		if len(all[i].B) > 0 {
			all[i].B = roomy(all[i].B)
		}
	}
	return all[:len(cells)]
}

func isMarked(b []byte) bool {
	return bytes.Equal(b, bytes.Repeat([]byte{mark}, len(b)))
}

var samples = []struct {
	kind  int
	cells []api.Cell
}{
	{api.KI8, nil},
	{api.KI8, []api.Cell{number(7), null, number(7), number(-1), number(100)}},
	{api.KI64, numbers(5, 6, 7, 5, 5, 5)},
	{api.KStr, texts("ab")},
	{api.KStr, []api.Cell{null, text("ab"), text("abc"), text("ab"), null, text("ab"), text("b"), text("longer than the others")}},
	{api.KBytes, texts("a", "a", "a", "a", "", "\x00")},
	{api.KBytes, texts("a", "ab", "abc", "abcd", "abcde", "abcdef")},
	{api.KBytes, []api.Cell{null, null}},
}

// P12.5: neither what is handed in is changed, nor what lies behind its length.
func TestArgumentsStay(t *testing.T) {
	wantStay := func(given, cells []api.Cell) {
		t.Helper()
		if !same(given, cells) {
			t.Errorf("cells changed: %v", given)
		}
		for i, c := range given[:len(cells)+9] {
			if len(c.B) > 0 && !isMarked(c.B[len(c.B):len(c.B)+9]) || i >= len(cells) && !isMarked(c.B) {
				t.Errorf("spare room changed: %v", c.B[:len(c.B)+9])
			}
		}
	}
	for _, x := range samples {
		for n := range len(x.cells) + 1 {
			cells := x.cells[:n]
			given := roomyCells(cells)
			for _, codec := range codecs {
				block.Encode(x.kind, codec, given...)
				wantStay(given, cells)
			}
			block.Best(x.kind, given...)
			wantStay(given, cells)
		}
		for _, codec := range codecs {
			if !isFor(x.kind, codec) {
				continue
			}
			b := written(x.kind, codec, x.cells)
			for n := range len(b) + 1 {
				for _, part := range [][]byte{b[:n], sealed(b[:n])} {
					given := roomy(part)
					block.Decode(x.kind, given)
					if !bytes.Equal(given, part) || !isMarked(given[len(part):len(part)+9]) {
						t.Errorf("bytes changed: %x", given[:len(part)+9])
					}
				}
			}
		}
	}
}

// fill writes over a list and its spare room.
func fill(b []byte, c byte) {
	b = b[:cap(b)]
	for i := range b {
		b[i] = c
	}
}

func cloned(cells []api.Cell) []api.Cell {
	cells = slices.Clone(cells)
	for i := range cells {
		cells[i].B = bytes.Clone(cells[i].B)
	}
	return cells
}

// wantUnshared fills the cells' bytes one by one, each with a byte of its own: the others stay.
func wantUnshared(t *testing.T, got, want []api.Cell) {
	t.Helper()
	if !same(got, want) {
		t.Errorf("%v; want %v", got, want)
		return
	}
	for i := range got {
		fill(got[i].B, byte(i))
		if !same(got[i+1:], want[i+1:]) {
			t.Errorf("what is written into cell %d is seen in %v", i, got[i+1:])
		}
	}
	for i, c := range got {
		if s := c.B[:cap(c.B)]; !bytes.Equal(s, bytes.Repeat([]byte{byte(i)}, len(s))) {
			t.Errorf("cell %d was written over: %x", i, s)
		}
	}
	clear(got[:cap(got)])
}

// P12.5: what is answered stays, whatever is done to the arguments, to the spare room or to other answers.
func TestAnswersAreNew(t *testing.T) {
	for _, x := range samples {
		for _, codec := range codecs {
			if !isFor(x.kind, codec) {
				continue
			}
			b := written(x.kind, codec, x.cells)
			_, bestB, _ := plainBest(x.kind, x.cells)
			for range 2 {
				cells, given := cloned(x.cells), slices.Clone(b)
				encoded, _ := block.Encode(x.kind, codec, cells...)
				_, best, _ := block.Best(x.kind, cells...)
				decoded, _ := block.Decode(x.kind, given)
				for _, c := range cells {
					fill(c.B, mark)
				}
				clear(cells)
				fill(given, mark)
				if !bytes.Equal(encoded, b) || !bytes.Equal(best, bestB) {
					t.Errorf("answers changed: %x, %x", encoded, best)
				}
				fill(encoded, mark)
				if !bytes.Equal(best, bestB) {
					t.Errorf("answer changed: %x", best)
				}
				wantUnshared(t, decoded, x.cells)
				fill(best, mark)
			}
		}
	}
}

// P12.5: the same memory may be handed in several times.
func TestSharedArguments(t *testing.T) {
	s := []byte("abcabc")
	wantAll(t, api.KStr, []api.Cell{{B: s[:3]}, {B: s[3:]}, {B: s}, null, {B: s[1:4]}, {B: s[:0]}, {B: s[:3]}})
	if string(s) != "abcabc" {
		t.Errorf("texts changed: %q", s)
	}
}

// P2: asked again, the same.
func TestAskedAgain(t *testing.T) {
	rnd := rand.New(rand.NewPCG(12, 6))
	ns, ss := someCells(rnd, api.KI16, 60), someCells(rnd, api.KBytes, 60)
	for range 20 {
		wantAll(t, api.KI16, ns)
		wantAll(t, api.KBytes, ss)
		wantRefused(t, api.KI8, make([]api.Cell, 5000), api.ErrLong)
		wantWrong(t, api.KI8, "\x01\x02\x01\x00\x0e\x0e", api.ErrForm)
	}
}
