package cfile_test

import (
	"bytes"
	"hash/crc32"
	"math"
	"math/rand/v2"
	"slices"
	"strconv"
	"strings"
	"testing"

	"stoa/api"
	"stoa/block"
	"stoa/cfile"
)

// The helpers beneath say in the plainest way what the chapter says. For the blocks they ask layer 12, as the chapter does; all else they write and read themselves.

var kinds = []int{api.KI8, api.KI16, api.KI32, api.KI64, api.KU16, api.KBool, api.KStr, api.KBytes}

// noKinds are such that are a kind in their lowest bits, too.
var noKinds = []int{math.MinInt, math.MinInt + 1, -256 + 7, -8, -1, 0, 9, 10, 16, 17, 255, 256, 257, 263, math.MaxInt}

// noPers are such that are a right one in their lowest bits, too.
var noPers = []int{math.MinInt, math.MinInt + 1, -4096, -2, -1, 0, 4097, 4098, 8192, 1 << 16, 1<<16 + 1, 1<<32 + 1, math.MaxInt}

func number(v int64) api.Cell {
	return api.Cell{Int: v}
}

func numbers(vs ...int64) []api.Cell {
	var cells []api.Cell
	for _, v := range vs {
		cells = append(cells, number(v))
	}
	return cells
}

func text(s string) api.Cell {
	return api.Cell{B: []byte(s)}
}

func texts(ss ...string) []api.Cell {
	var cells []api.Cell
	for _, s := range ss {
		cells = append(cells, text(s))
	}
	return cells
}

var null = api.Cell{Null: true}

func bytesOf(ss ...string) [][]byte {
	var keys [][]byte
	for _, s := range ss {
		keys = append(keys, []byte(s))
	}
	return keys
}

// plainPut divides by 128 until nothing is left.
func plainPut(u uint64) string {
	var b []byte
	for ; u >= 128; u /= 128 {
		b = append(b, byte(u%128)+128)
	}
	return string(append(b, byte(u)))
}

// plainGet takes a number from the beginning of b, and answers what is left; false for one of above 56 bits, too, since none of the file's is so great.
func plainGet(b string) (int, string, bool) {
	u := 0
	for i := 0; i < len(b) && i < 8; i++ {
		u += int(b[i]%128) << (7 * i)
		if b[i] < 128 {
			return u, b[i+1:], b[i] > 0 || i == 0
		}
	}
	return 0, "", false
}

// sealed is b with the library's sum behind.
func sealed(b string) string {
	sum := crc32.Checksum([]byte(b), crc32.MakeTable(crc32.Castagnoli))
	return b + string([]byte{byte(sum), byte(sum >> 8), byte(sum >> 16), byte(sum >> 24)})
}

func four(n int) string {
	return string([]byte{byte(n), byte(n >> 8), byte(n >> 16), byte(n >> 24)})
}

// laid is a file's parts, any of which may be wrong.
type laid struct {
	frame  int // the kind of the footer's frame
	kind   int
	mark   int // 1 of a file of keys
	rows   uint64
	per    uint64
	count  uint64
	blocks []string
	sizes  []uint64 // where the footer tells other ones than the blocks have
	firsts []string
	trail  string // behind all of the footer's body
	gap    string // ahead of the footer's frame
	shift  int    // how far off the place is
	behind string // between the footer's frame and the end
}

func (x laid) body() string {
	b := string([]byte{byte(x.kind), byte(x.mark)}) + plainPut(x.rows) + plainPut(x.per) + plainPut(x.count)
	for i, s := range x.blocks {
		size := uint64(len(s))
		if x.sizes != nil {
			size = x.sizes[i]
		}
		b += plainPut(size)
		if x.firsts != nil {
			b += plainPut(uint64(len(x.firsts[i]))) + x.firsts[i]
		}
	}
	return b + x.trail
}

// wrapped is bytes with a footer of this body behind, and the end.
func wrapped(ahead string, kind int, body, behind string, place int) []byte {
	frame := sealed(string([]byte{byte(kind)})+four(len(body))) + sealed(body)
	return []byte(ahead + frame + behind + sealed(four(place)))
}

func (x laid) file() []byte {
	ahead := strings.Join(x.blocks, "") + x.gap
	return wrapped(ahead, x.frame, x.body(), x.behind, len(ahead)+x.shift)
}

// laidOut is the file of these cells, as it is to be laid; of keys or not.
func laidOut(kind, per int, keys bool, cells []api.Cell) (laid, api.Errno) {
	x := laid{frame: 1, kind: kind, rows: uint64(len(cells)), per: uint64(per)}
	if keys {
		x.mark = 1
		x.firsts = []string{}
	}
	for i := 0; i < len(cells); i += per {
		piece := cells[i:min(i+per, len(cells))]
		_, b, e := block.Best(kind, piece...)
		if e != api.OK {
			return laid{}, e
		}
		x.count++
		x.blocks = append(x.blocks, string(b))
		if keys {
			x.firsts = append(x.firsts, string(cells[i].B))
		}
	}
	return x, api.OK
}

func plainBuild(kind, per int, keys bool, cells []api.Cell) ([]byte, api.Errno) {
	if kind < 1 || kind > 8 || per < 1 || per > 4096 {
		return nil, api.ErrArg
	}
	if len(cells) > 4096 {
		return nil, api.ErrLong
	}
	x, e := laidOut(kind, per, keys, cells)
	if e != api.OK {
		return nil, e
	}
	if len(x.body()) > 65536 || len(x.file()) > 1048576 {
		return nil, api.ErrLong
	}
	return x.file(), api.OK
}

func plainKeys(per int, keys [][]byte) ([]byte, api.Errno) {
	var cells []api.Cell
	for i, key := range keys {
		cells = append(cells, api.Cell{B: key})
		for _, ahead := range keys[:i] {
			if len(keys) < 100 && string(ahead) >= string(key) {
				return nil, api.ErrArg
			}
		}
		if i > 0 && string(keys[i-1]) >= string(key) {
			return nil, api.ErrArg
		}
	}
	return plainBuild(api.KBytes, per, true, cells)
}

// plain is a file that was opened.
type plain struct {
	kind, rows, per int
	keys            bool
	blocks          []string
	firsts          []string
}

// plainOpen is nil for what is no file.
func plainOpen(b []byte) *plain {
	s := string(b)
	if len(s) > 1048576 || len(s) < 8 || sealed(s[len(s)-8:len(s)-4]) != s[len(s)-8:] {
		return nil
	}
	s, end := s[:len(s)-8], s[len(s)-8:]
	place := int(end[0]) + 256*int(end[1]) + 65536*int(end[2]) + 16777216*int(end[3])
	if place > len(s) || len(s)-place < 13 {
		return nil
	}
	ahead, frame := s[:place], s[place:]
	n := int(frame[1]) + 256*int(frame[2]) + 65536*int(frame[3]) + 16777216*int(frame[4])
	if frame[0] != 1 || n > 65536 || len(frame) != n+13 || frame[:9] != sealed(frame[:5]) || frame[9:] != sealed(frame[9:9+n]) {
		return nil
	}
	return plainFooter(ahead, frame[9:9+n])
}

func plainFooter(ahead, body string) *plain {
	if len(body) < 2 || body[0] < 1 || body[0] > 8 || body[1] > 1 || body[1] == 1 && body[0] != 8 {
		return nil
	}
	p := &plain{kind: int(body[0]), keys: body[1] == 1}
	right := true
	take := func(most int) int {
		n, rest, ok := plainGet(body)
		if !ok || n > most || !right {
			right = false
			return 0
		}
		body = rest
		return n
	}
	body = body[2:]
	p.rows, p.per = take(4096), take(4096)
	count := take(4096)
	if !right || p.per == 0 {
		return nil
	}
	need := p.rows / p.per
	if p.rows%p.per > 0 {
		need++
	}
	if count != need {
		return nil
	}
	for i := range count {
		n := take(65000)
		if n > len(ahead) {
			return nil
		}
		p.blocks = append(p.blocks, ahead[:n])
		ahead = ahead[n:]
		if p.keys {
			n := take(200)
			if n > len(body) {
				return nil
			}
			p.firsts = append(p.firsts, body[:n])
			body = body[n:]
			if i > 0 && p.firsts[i-1] >= p.firsts[i] {
				return nil
			}
		}
	}
	if !right || ahead != "" || body != "" {
		return nil
	}
	return p
}

func (p *plain) cells(i int) ([]api.Cell, bool) {
	want := p.per
	if i == len(p.blocks)-1 {
		want = p.rows - i*p.per
	}
	cells, e := block.Decode(p.kind, []byte(p.blocks[i]))
	return cells, e == api.OK && len(cells) == want
}

// plainRead looks at each cell for itself.
func (p *plain) read(from, n int) ([]api.Cell, api.Errno) {
	if from < 0 || n < 0 {
		return nil, api.ErrArg
	}
	left := 0
	if from < p.rows {
		left = p.rows - from
	}
	if left < n {
		return nil, api.ErrArg
	}
	var all []api.Cell
	for i := range p.blocks {
		first := i * p.per
		if n == 0 || first+p.per <= from || first >= from+n {
			continue
		}
		cells, ok := p.cells(i)
		if !ok {
			return nil, api.ErrCorrupt
		}
		for k, c := range cells {
			if first+k >= from && first+k < from+n {
				all = append(all, c)
			}
		}
	}
	return all, api.OK
}

func (p *plain) seek(key string) (int, bool, api.Errno) {
	if !p.keys {
		return 0, false, api.ErrArg
	}
	which := -1
	for i, first := range p.firsts {
		if first <= key {
			which = i
		}
	}
	if which < 0 {
		return 0, false, api.OK
	}
	cells, ok := p.cells(which)
	if !ok {
		return 0, false, api.ErrCorrupt
	}
	n := 0
	for n < len(cells) && (cells[n].Null || string(cells[n].B) < key) {
		n++
	}
	return which*p.per + n, n < len(cells) && string(cells[n].B) == key, api.OK
}

// same takes a list that is nil for an empty one.
func same(x, y []api.Cell) bool {
	return slices.EqualFunc(x, y, func(a, b api.Cell) bool {
		return a.Null == b.Null && a.Int == b.Int && bytes.Equal(a.B, b.B)
	})
}

// short keeps what is told of long lists short.
func short[T any](list []T) []T {
	return list[:min(len(list), 40)]
}

func wantBytes(t *testing.T, what string, b []byte, e api.Errno, want []byte, wantErr api.Errno) {
	t.Helper()
	if !bytes.Equal(b, want) || e != wantErr || e != api.OK && b != nil {
		t.Errorf("%s = %x (%d bytes), %d; want %x (%d bytes), %d", what, short(b), len(b), e, short(want), len(want), wantErr)
	}
}

// wantBuild holds Build against the plain one, and what was built against what is opened; it answers the file.
func wantBuild(t *testing.T, kind, per int, cells []api.Cell) []byte {
	t.Helper()
	b, e := cfile.Build(kind, per, cells...)
	want, wantErr := plainBuild(kind, per, false, cells)
	wantBytes(t, "Build("+strconv.Itoa(kind)+", "+strconv.Itoa(per)+", "+strconv.Itoa(len(cells))+" cells)", b, e, want, wantErr)
	if e == api.OK {
		wantFile(t, b, kind, per, false, cells)
	}
	return b
}

func wantBuildKeys(t *testing.T, per int, keys [][]byte) []byte {
	t.Helper()
	b, e := cfile.BuildKeys(per, keys...)
	want, wantErr := plainKeys(per, keys)
	wantBytes(t, "BuildKeys("+strconv.Itoa(per)+", "+strconv.Itoa(len(keys))+" keys)", b, e, want, wantErr)
	if e == api.OK {
		var cells []api.Cell
		for _, key := range keys {
			cells = append(cells, api.Cell{B: key})
		}
		wantFile(t, b, api.KBytes, per, true, cells)
	}
	return b
}

// wantFile: b is the file of these cells.
func wantFile(t *testing.T, b []byte, kind, per int, keys bool, cells []api.Cell) {
	t.Helper()
	f, e := cfile.Open(b)
	if e != api.OK {
		t.Errorf("Open of %d cells = %d", len(cells), e)
		return
	}
	if f.Kind() != kind || f.Rows() != len(cells) || f.Blocks() != (len(cells)+per-1)/per || f.Keys() != keys {
		t.Errorf("Open of %d cells: kind %d, %d rows, %d blocks, keys %t", len(cells), f.Kind(), f.Rows(), f.Blocks(), f.Keys())
	}
	if all, e := f.Read(0, len(cells)); !same(all, cells) || e != api.OK {
		t.Errorf("Read of all = %v, %d; want %v", short(all), e, short(cells))
	}
}

// wantOpen holds Open and all that can be asked of what it answers against the plain ones.
func wantOpen(t *testing.T, b []byte) *plain {
	t.Helper()
	f, e := cfile.Open(b)
	p := plainOpen(b)
	if p == nil {
		if f != nil || e != api.ErrCorrupt {
			t.Errorf("Open(%x, %d bytes) = %v, %d", short(b), len(b), f, e)
		}
		return nil
	}
	if f == nil || e != api.OK {
		t.Errorf("Open(%x, %d bytes) = %v, %d; want a file", short(b), len(b), f, e)
		return nil
	}
	wantSame(t, f, p)
	return p
}

// wantSame holds what is told of a file against the plain one.
func wantSame(t *testing.T, f *cfile.File, p *plain) {
	t.Helper()
	if f.Kind() != p.kind || f.Rows() != p.rows || f.Blocks() != len(p.blocks) || f.Keys() != p.keys {
		t.Errorf("kind %d, %d rows, %d blocks, keys %t; want %d, %d, %d, %t", f.Kind(), f.Rows(), f.Blocks(), f.Keys(), p.kind, p.rows, len(p.blocks), p.keys)
	}
	if p.rows > 40 {
		wantRead(t, f, p, 0, p.rows)
		return
	}
	for from := -1; from <= p.rows+1; from++ {
		for n := -1; n <= p.rows-from+1; n++ {
			wantRead(t, f, p, from, n)
		}
	}
	for _, key := range []string{"", "a", "b", "\xff"} {
		wantSeek(t, f, p, key)
	}
	for _, first := range p.firsts {
		wantSeek(t, f, p, first)
		wantSeek(t, f, p, first+"\x00")
	}
}

func wantRead(t *testing.T, f *cfile.File, p *plain, from, n int) {
	t.Helper()
	cells, e := f.Read(from, n)
	want, wantErr := p.read(from, n)
	if !same(cells, want) || e != wantErr || e != api.OK && cells != nil {
		t.Errorf("Read(%d, %d) of %d cells, %d to a block = %v, %d; want %v, %d", from, n, p.rows, p.per, short(cells), e, short(want), wantErr)
	}
}

func wantSeek(t *testing.T, f *cfile.File, p *plain, key string) {
	t.Helper()
	at, ok, e := f.Seek([]byte(key))
	want, wantOk, wantErr := p.seek(key)
	if at != want || ok != wantOk || e != wantErr {
		t.Errorf("Seek(%q) = %d, %t, %d; want %d, %t, %d", key, at, ok, e, want, wantOk, wantErr)
	}
}

// opened is a file that is right, and the plain one.
func opened(t *testing.T, b []byte) (*cfile.File, *plain) {
	t.Helper()
	f, e := cfile.Open(b)
	p := plainOpen(b)
	if e != api.OK || f == nil || p == nil {
		t.Fatalf("Open(%x) = %d; the plain one: %v", short(b), e, p)
	}
	return f, p
}

// P15.1, P15.2: the chapter's examples, byte by byte, and others.
func TestExamples(t *testing.T) {
	b, e := cfile.Build(api.KI8, 2, numbers(7, 7, 9)...)
	want := sealed("\x01\x02\x00\x0e\x0e") + sealed("\x01\x01\x00\x12") + sealed("\x01\x07\x00\x00\x00") + sealed("\x01\x00\x03\x02\x02\x09\x08") + sealed("\x11\x00\x00\x00")
	wantBytes(t, "Build", b, e, []byte(want), api.OK)
	wantBuild(t, api.KI8, 2, numbers(7, 7, 9))
	f, p := opened(t, b)
	if f.Rows() != 3 || f.Blocks() != 2 || f.Kind() != api.KI8 || f.Keys() {
		t.Errorf("%d rows, %d blocks, kind %d, keys %t", f.Rows(), f.Blocks(), f.Kind(), f.Keys())
	}
	if cells, e := f.Read(1, 2); !same(cells, numbers(7, 9)) || e != api.OK {
		t.Errorf("Read(1, 2) = %v, %d", cells, e)
	}
	if cells, e := f.Read(2, 2); cells != nil || e != api.ErrArg {
		t.Errorf("Read(2, 2) = %v, %d", cells, e)
	}
	if at, ok, e := f.Seek([]byte("a")); at != 0 || ok || e != api.ErrArg {
		t.Errorf("Seek = %d, %t, %d", at, ok, e)
	}
	wantSame(t, f, p)

	b, e = cfile.BuildKeys(2, bytesOf("a", "c", "e")...)
	want = sealed("\x01\x02\x00\x01a\x01c") + sealed("\x01\x01\x00\x01e") + sealed("\x01\x0b\x00\x00\x00") + sealed("\x08\x01\x03\x02\x02\x0b\x01a\x09\x01e") + sealed("\x14\x00\x00\x00")
	wantBytes(t, "BuildKeys", b, e, []byte(want), api.OK)
	f, _ = opened(t, b)
	for _, x := range []struct {
		key string
		at  int
		ok  bool
	}{{"c", 1, true}, {"d", 2, false}, {"", 0, false}, {"a", 0, true}, {"A", 0, false}, {"a\x00", 1, false}, {"b", 1, false}, {"c\x00", 2, false}, {"e", 2, true}, {"e\x00", 3, false}, {"\xff", 3, false}} {
		if at, ok, e := f.Seek([]byte(x.key)); at != x.at || ok != x.ok || e != api.OK {
			t.Errorf("Seek(%q) = %d, %t, %d; want %d, %t", x.key, at, ok, e, x.at, x.ok)
		}
	}
	b, e = cfile.BuildKeys(2, bytesOf("b", "a")...)
	wantBytes(t, "BuildKeys", b, e, nil, api.ErrArg)

	b, e = cfile.Build(api.KBool, 7)
	wantBytes(t, "Build of nothing", b, e, []byte(sealed("\x01\x05\x00\x00\x00")+sealed("\x06\x00\x00\x07\x00")+sealed(four(0))), api.OK)
	b, e = cfile.BuildKeys(4096)
	wantBytes(t, "BuildKeys of nothing", b, e, []byte(sealed("\x01\x06\x00\x00\x00")+sealed("\x08\x01\x00\x80\x20\x00")+sealed(four(0))), api.OK)
}

// cellsOf are n cells of a kind, not all alike, some of them null.
func cellsOf(kind, n int) []api.Cell {
	var cells []api.Cell
	for i := range n {
		switch {
		case i%7 == 3:
			cells = append(cells, null)
		case kind == api.KBool:
			cells = append(cells, number(int64(i/3%2)))
		case kind <= api.KU16:
			cells = append(cells, number(int64(i*i%101)))
		default:
			cells = append(cells, text("cell "+strconv.Itoa(i*i%31)))
		}
	}
	return cells
}

// keysOf are n keys that rise.
func keysOf(n int) [][]byte {
	var keys [][]byte
	for i := range n {
		keys = append(keys, []byte("key "+strconv.Itoa(100000+3*i)))
	}
	return keys
}

// P15.1, P15.3: all kinds, so many cells and so many to a block.
func TestBuild(t *testing.T) {
	for _, kind := range kinds {
		for n := range 20 {
			for per := 1; per <= n+2; per++ {
				wantOpen(t, wantBuild(t, kind, per, cellsOf(kind, n)))
			}
		}
	}
	for n := range 20 {
		for per := 1; per <= n+2; per++ {
			wantOpen(t, wantBuildKeys(t, per, keysOf(n)))
		}
	}
}

// P15.1: as many cells as may be, one more, and ever so many.
func TestManyCells(t *testing.T) {
	for _, per := range []int{1, 2, 63, 64, 4095, 4096} {
		for _, n := range []int{4095, 4096, 4097} {
			wantBuild(t, api.KI16, per, cellsOf(api.KI16, n))
			wantBuild(t, api.KStr, per, cellsOf(api.KStr, n))
			wantBuildKeys(t, per, keysOf(n))
		}
		wantBuild(t, api.KI8, per, make([]api.Cell, 4096))
		b, e := cfile.Build(api.KI8, per, make([]api.Cell, 4097)...)
		wantBytes(t, "Build of 4097 cells", b, e, nil, api.ErrLong)
		b, e = cfile.Build(api.KI8, per, make([]api.Cell, 100000)...)
		wantBytes(t, "Build of 100000 cells", b, e, nil, api.ErrLong)
		b, e = cfile.BuildKeys(per, keysOf(4097)...)
		wantBytes(t, "BuildKeys of 4097 keys", b, e, nil, api.ErrLong)
	}
}

// P15.1: what is no kind, and no number of cells to a block.
func TestWrongNumbers(t *testing.T) {
	for _, kind := range noKinds {
		for _, cells := range [][]api.Cell{nil, numbers(1), numbers(1000), texts("a"), {null}, make([]api.Cell, 5000)} {
			b, e := cfile.Build(kind, 2, cells...)
			wantBytes(t, "Build of kind "+strconv.Itoa(kind), b, e, nil, api.ErrArg)
		}
	}
	for _, per := range noPers {
		for _, cells := range [][]api.Cell{nil, numbers(1), numbers(1000), texts("a"), make([]api.Cell, 5000)} {
			b, e := cfile.Build(api.KI8, per, cells...)
			wantBytes(t, "Build, per "+strconv.Itoa(per), b, e, nil, api.ErrArg)
		}
		for _, keys := range [][][]byte{nil, bytesOf("a"), bytesOf("b", "a"), bytesOf(long(201)), keysOf(5000)} {
			b, e := cfile.BuildKeys(per, keys...)
			wantBytes(t, "BuildKeys, per "+strconv.Itoa(per), b, e, nil, api.ErrArg)
		}
	}
	for _, per := range []int{1, 2, 4095, 4096} {
		wantBuild(t, api.KI8, per, numbers(1, 2, 3))
		wantBuildKeys(t, per, bytesOf("a", "b", "c"))
	}
}

func long(n int) string {
	return strings.Repeat("x", n)
}

// unlike are n texts of 200 bytes, of which no two begin alike.
func unlike(n int) []api.Cell {
	rnd := rand.New(rand.NewPCG(15, 1))
	var cells []api.Cell
	for range n {
		b := make([]byte, 200)
		for k := range b {
			b[k] = byte(1 + rnd.IntN(255))
		}
		cells = append(cells, api.Cell{B: b})
	}
	return cells
}

// P1, P15.1: the error of the first block that has one, whatever is wrong behind it.
func TestBlockErrors(t *testing.T) {
	for _, x := range []struct {
		kind, per int
		cells     []api.Cell
		want      api.Errno
	}{
		{api.KI8, 1, numbers(1, 128), api.ErrRange},
		{api.KI8, 2, numbers(1, 2, 3, 128), api.ErrRange},
		{api.KI8, 2, []api.Cell{number(1), number(128), text("a")}, api.ErrRange},
		{api.KI8, 2, []api.Cell{number(1), text("a"), number(128)}, api.ErrKind},
		{api.KI8, 1, []api.Cell{number(1), {Null: true, Int: 1}}, api.ErrKind},
		{api.KBool, 3, numbers(0, 1, 0, 1, 2), api.ErrRange},
		{api.KStr, 2, texts("a", "b", "c", "\x00"), api.ErrForm},
		{api.KStr, 2, texts("a", "b", long(201), "\x00"), api.ErrLong},
		{api.KStr, 1, texts("a", "\x00", long(201)), api.ErrForm},
		{api.KBytes, 9, []api.Cell{{Int: 1}}, api.ErrKind},
		// A block that is too long, and behind it a wrong cell; and the other way round.
		{api.KBytes, 400, append(unlike(400), number(1)), api.ErrLong},
		{api.KBytes, 401, append(unlike(400), number(1)), api.ErrKind},
		{api.KBytes, 400, append(unlike(399), number(1), text("a")), api.ErrKind},
		{api.KBytes, 4096, unlike(400), api.ErrLong},
		// Too many cells go ahead of wrong ones.
		{api.KI8, 1, slices.Concat(numbers(1000), make([]api.Cell, 4096)), api.ErrLong},
		{api.KI8, 1, slices.Concat(texts("a"), make([]api.Cell, 4095)), api.ErrKind},
	} {
		b, e := cfile.Build(x.kind, x.per, x.cells...)
		wantBytes(t, "Build("+strconv.Itoa(x.kind)+", "+strconv.Itoa(x.per)+")", b, e, nil, x.want)
		wantBuild(t, x.kind, x.per, x.cells)
	}
	// As many texts to a block as go into one, and one more.
	fit := 0
	for n := 315; n < 326; n++ {
		if wantBuild(t, api.KBytes, n, unlike(330)) != nil {
			fit = n
		}
	}
	if fit < 315 || fit >= 325 {
		t.Errorf("no bound at %d texts to a block", fit)
	}
}

// P15.1: keys have to rise; that goes ahead of all else that may be wrong with them.
func TestKeysRise(t *testing.T) {
	for _, x := range []struct {
		keys []string
		want api.Errno
	}{
		{[]string{""}, api.OK}, {[]string{"", "\x00"}, api.OK}, {[]string{"", "a", "ab", "b"}, api.OK}, {[]string{"a", "a\x00", "a\x00\x00"}, api.OK}, {[]string{"\x7f", "\x80", "\xff", "\xff\xff"}, api.OK},
		{[]string{"", ""}, api.ErrArg}, {[]string{"a", "a"}, api.ErrArg}, {[]string{"a", ""}, api.ErrArg}, {[]string{"ab", "a"}, api.ErrArg}, {[]string{"\x80", "\x7f"}, api.ErrArg},
		{[]string{"a", "b", "c", "c"}, api.ErrArg}, {[]string{"a", "b", "c", "b"}, api.ErrArg}, {[]string{"b", "a", "c", "d"}, api.ErrArg}, {[]string{"a", "c", "b", "d"}, api.ErrArg},
		{[]string{long(200)}, api.OK}, {[]string{long(201)}, api.ErrLong}, {[]string{"a", long(201)}, api.ErrLong}, {[]string{long(199), long(200), long(201)}, api.ErrLong},
		{[]string{long(201), "a"}, api.ErrArg}, {[]string{long(201), long(202), long(201)}, api.ErrArg}, {[]string{long(1000), long(1000)}, api.ErrArg},
	} {
		for per := 1; per <= 5; per++ {
			b, e := cfile.BuildKeys(per, bytesOf(x.keys...)...)
			if e != x.want || (b == nil) != (e != api.OK) {
				t.Errorf("BuildKeys(%d, %.20q) = %x, %d; want %d", per, x.keys, short(b), e, x.want)
			}
			wantBuildKeys(t, per, bytesOf(x.keys...))
		}
	}
	many := keysOf(5000)
	many[4999] = many[4998]
	b, e := cfile.BuildKeys(1, many...)
	wantBytes(t, "5000 keys, the last one twice", b, e, nil, api.ErrArg)
	wantBuildKeys(t, 1, [][]byte{nil, {0}})
	wantBuildKeys(t, 1, [][]byte{nil, {}})
}

// wideKeys are n keys of 200 bytes, and one of size bytes behind them.
func wideKeys(n, size int) [][]byte {
	var keys [][]byte
	for i := range n {
		key := bytes.Repeat([]byte{'k'}, 200)
		copy(key, strconv.Itoa(100000+i))
		keys = append(keys, key)
	}
	return append(keys, bytes.Repeat([]byte{'z'}, size))
}

// P15.1: a footer as long as may be, and one byte longer.
func TestLongFooter(t *testing.T) {
	met := false
	for size := 40; size < 47; size++ {
		keys := wideKeys(321, size)
		b := wantBuildKeys(t, 1, keys)
		var cells []api.Cell
		for _, key := range keys {
			cells = append(cells, api.Cell{B: key})
		}
		x, _ := laidOut(api.KBytes, 1, true, cells)
		if n := len(x.body()); (b == nil) != (n > 65536) {
			t.Errorf("a footer of %d bytes: %d bytes of a file", n, len(b))
		}
		met = met || len(x.body()) == 65536
	}
	if !met {
		t.Error("no footer was just as long as may be")
	}
	b, e := cfile.BuildKeys(1, wideKeys(2000, 1)...)
	wantBytes(t, "2000 long keys", b, e, nil, api.ErrLong)
	wantBuildKeys(t, 20, wideKeys(2000, 1))
	wantBuildKeys(t, 300, wideKeys(4095, 200))
	// The longest file that there is.
	wantBuild(t, api.KBytes, 1, unlike(4096))
	wantBuild(t, api.KBytes, 300, unlike(4096))
}

// block2 is the block of these numbers.
func block2(vs ...int64) string {
	_, b, _ := block.Best(api.KI8, numbers(vs...)...)
	return string(b)
}

// cellsFile is a file that is right: three cells, two to a block.
func cellsFile() laid {
	return laid{frame: 1, kind: api.KI8, rows: 3, per: 2, count: 2, blocks: []string{block2(7, 8), block2(9)}}
}

func textBlock(ss ...string) string {
	_, b, _ := block.Best(api.KBytes, texts(ss...)...)
	return string(b)
}

// keysFile is a file of keys that is right: five, two to a block.
func keysFile() laid {
	return laid{frame: 1, kind: api.KBytes, mark: 1, rows: 5, per: 2, count: 3, blocks: []string{textBlock("a", "b"), textBlock("c", "d"), textBlock("e")}, firsts: []string{"a", "c", "e"}}
}

func wantFileOf(t *testing.T, what string, x laid) {
	t.Helper()
	if wantOpen(t, x.file()) == nil {
		t.Errorf("%s is no file", what)
	}
}

func wantNoFile(t *testing.T, what string, b []byte) {
	t.Helper()
	if wantOpen(t, b) != nil {
		t.Errorf("%s is a file", what)
	}
	if f, e := cfile.Open(b); f != nil || e != api.ErrCorrupt {
		t.Errorf("%s: %v, %d", what, f, e)
	}
}

// P15.1: footers under right sums, of which each tells something wrong.
func TestWrongFooters(t *testing.T) {
	wantFileOf(t, "the file", cellsFile())
	wantFileOf(t, "the file of keys", keysFile())
	for _, file := range []func() laid{cellsFile, keysFile} {
		wrong := func(what string, change func(x *laid)) {
			t.Helper()
			x := file()
			change(&x)
			wantNoFile(t, what, x.file())
		}
		for kind := range 256 {
			if kind != 1 {
				wrong("another frame", func(x *laid) { x.frame = kind })
			}
			if kind < 1 || kind > 8 {
				wrong("no kind", func(x *laid) { x.kind = kind })
			}
			if kind > 1 {
				wrong("a strange mark", func(x *laid) { x.mark = kind })
			}
		}
		wrong("the other mark", func(x *laid) { x.mark = 1 - x.mark })
		for _, n := range []uint64{0, 1, 2, 3, 4, 5, 6, 7, 128, 4095, 4096, 4097, 1 << 16, 1<<16 + 2, 1 << 31, 1<<32 + 2, 1<<32 + 3, 1<<32 + 5, 1 << 63, math.MaxUint64} {
			x := file()
			if need := (x.rows + x.per - 1) / x.per; n != x.count {
				wrong("not so many blocks", func(x *laid) { x.count = n })
				wrong("not as many blocks as there are", func(x *laid) { x.rows, x.per, x.count = n, 1, n })
			} else if need != n {
				t.Errorf("the test's file has %d blocks", n)
			}
			if (n+x.per-1)/x.per != x.count || n > 4096 {
				wrong("not so many cells", func(x *laid) { x.rows = n })
			}
			if n == 0 || n > 4096 || (x.rows+n-1)/n != x.count {
				wrong("not so many to a block", func(x *laid) { x.per = n })
			}
			wrong("no block so long", func(x *laid) { x.sizes = []uint64{n, 9, 9}[:len(x.blocks)] })
			wrong("no last block so long", func(x *laid) {
				x.sizes = make([]uint64, len(x.blocks))
				x.sizes[len(x.sizes)-1] = n
			})
		}
		wrong("a longer first block", func(x *laid) { x.sizes = sizesOf(x.blocks, 1, 0) })
		wrong("a shorter first block", func(x *laid) { x.sizes = sizesOf(x.blocks, -1, 0) })
		wrong("a longer last block", func(x *laid) { x.sizes = sizesOf(x.blocks, 0, 1) })
		wrong("a shorter last block", func(x *laid) { x.sizes = sizesOf(x.blocks, 0, -1) })
		for _, s := range []string{"\x00", "\x01", "\xff", "trail"} {
			wrong("bytes behind the footer's body", func(x *laid) { x.trail = s })
			wrong("bytes ahead of the footer", func(x *laid) { x.gap = s })
			wrong("bytes ahead of the blocks", func(x *laid) { x.blocks[0], x.sizes = s+x.blocks[0], sizesOf(x.blocks, 0, 0) })
			wrong("bytes behind the footer", func(x *laid) { x.behind = s })
		}
		wrong("a second footer", func(x *laid) { x.behind = sealed("\x01\x00\x00\x00\x00") + sealed("") })
		for _, n := range []int{math.MinInt32, -1000, -2, -1, 1, 2, 8, 13, 50, 1000, 1 << 16, 1 << 24, math.MaxInt32} {
			wrong("another place", func(x *laid) { x.shift = n })
		}
	}
}

func sizesOf(blocks []string, first, last int) []uint64 {
	var sizes []uint64
	for _, s := range blocks {
		sizes = append(sizes, uint64(len(s)))
	}
	sizes[0] += uint64(first)
	sizes[len(sizes)-1] += uint64(last)
	return sizes
}

// P15.1: the kinds that a file may have, and that a file of keys has to have.
func TestKindsOpened(t *testing.T) {
	for _, kind := range kinds {
		x := cellsFile()
		x.kind = kind
		wantFileOf(t, "a file of another kind", x)
		x = keysFile()
		x.kind = kind
		if kind == api.KBytes {
			wantFileOf(t, "a file of keys", x)
		} else {
			wantNoFile(t, "a file of keys of kind "+strconv.Itoa(kind), x.file())
		}
	}
}

// P15.1: the first keys have to rise, and none is longer than a cell.
func TestFirstKeys(t *testing.T) {
	for _, x := range []struct {
		firsts []string
		ok     bool
	}{
		{[]string{"", "a", "b"}, true}, {[]string{"a", "a\x00", "b"}, true}, {[]string{"x", "y", "z"}, true}, {[]string{"a", "b", long(200)}, true}, {[]string{long(199), long(200), "y"}, true},
		{[]string{"a", "a", "b"}, false}, {[]string{"a", "b", "b"}, false}, {[]string{"", "", "b"}, false}, {[]string{"b", "a", "c"}, false}, {[]string{"a", "c", "b"}, false}, {[]string{"a", "b", ""}, false}, {[]string{"c", "b", "a"}, false},
		{[]string{"a", "b", long(201)}, false}, {[]string{long(201), "y", "z"}, false}, {[]string{"a", long(201), "y"}, false}, {[]string{"a", "b", long(1000)}, false}, {[]string{"ab", "a", "b"}, false},
	} {
		f := keysFile()
		f.firsts = x.firsts
		if x.ok {
			wantFileOf(t, strings.Join(x.firsts, " "), f)
		} else {
			wantNoFile(t, strings.Join(x.firsts, " "), f.file())
		}
	}
	// A length that the footer doesn't hold.
	x := keysFile()
	body := x.body()
	for _, tail := range []string{"\x09\x02e", "\x09\x01", "\x09\x00e", "\x09", "", "\x09\x81\x00e", "\x09\xff\xff\xff\xff\x0fe", "\x09\xff\xff\xff\xff\xff\xff\xff\xff\xff\x01e", "\x09\x01ee"} {
		ahead := strings.Join(x.blocks, "")
		wantNoFile(t, "a footer that ends with "+tail, wrapped(ahead, 1, body[:len(body)-3]+tail, "", len(ahead)))
	}
	ahead := strings.Join(x.blocks, "")
	if wantOpen(t, wrapped(ahead, 1, body[:len(body)-3]+"\x09\x01e", "", len(ahead))) == nil {
		t.Error("the footer of the test is wrong")
	}
}

// P15.1: bounds on the cells and the blocks of what is opened, where the blocks hold anything.
func TestOpenBounds(t *testing.T) {
	of := func(rows, per uint64, blocks ...string) laid {
		return laid{frame: 1, kind: api.KI8, rows: rows, per: per, count: uint64(len(blocks)), blocks: blocks}
	}
	wantFileOf(t, "no cells", of(0, 1))
	wantFileOf(t, "no cells, most to a block", of(0, 4096))
	wantNoFile(t, "no cells, but a block", of(0, 1, "").file())
	wantNoFile(t, "no cells, too many to a block", of(0, 4097).file())
	wantNoFile(t, "no cells, none to a block", of(0, 0).file())
	wantNoFile(t, "cells, none to a block", of(1, 0, "x").file())
	wantFileOf(t, "a block without bytes", of(1, 1, ""))
	wantFileOf(t, "all cells in a block", of(4096, 4096, "x"))
	wantNoFile(t, "too many cells", of(4097, 4096, "x", "y").file())
	wantFileOf(t, "all cells for themselves", of(4096, 1, slices.Repeat([]string{"x"}, 4096)...))
	wantNoFile(t, "too many cells for themselves", of(4097, 1, slices.Repeat([]string{"x"}, 4097)...).file())
	for _, n := range []int{64999, 65000} {
		wantFileOf(t, "a long block", of(1, 1, long(n)))
		wantFileOf(t, "a long block behind another one", of(2, 1, "x", long(n)))
	}
	for _, n := range []int{65001, 65002, 65536, 100000} {
		wantNoFile(t, "a block that is too long", of(1, 1, long(n)).file())
		wantNoFile(t, "a last block that is too long", of(2, 1, "x", long(n)).file())
	}
	blocks := append(slices.Repeat([]string{long(65000)}, 16), long(8000))
	over := len(of(17, 1, blocks...).file()) - 1048576
	blocks[16] = long(8000 - over)
	if b := of(17, 1, blocks...).file(); len(b) != 1048576 || wantOpen(t, b) == nil {
		t.Errorf("a file of %d bytes", len(b))
	}
	blocks[16] += "x"
	wantNoFile(t, "a file that is too long", of(17, 1, blocks...).file())
	blocks[16] += "x"
	wantNoFile(t, "a file that is longer yet", of(17, 1, blocks...).file())
}

// P15.1: what is cut off, and what is added, is told; so is what is no file at all.
func TestCut(t *testing.T) {
	for _, x := range []laid{cellsFile(), keysFile(), {frame: 1, kind: 8, mark: 1, per: 1, firsts: []string{}}} {
		b := x.file()
		for n := range b {
			wantNoFile(t, "a beginning", b[:n])
			if n > 0 {
				wantNoFile(t, "an end", b[n:])
			}
		}
		for c := range 256 {
			wantNoFile(t, "a file and a byte", append(slices.Clone(b), byte(c)))
			wantNoFile(t, "a byte and a file", append([]byte{byte(c)}, b...))
		}
		wantNoFile(t, "a file twice", append(slices.Clone(b), b...))
		// The footer's body cut off, under right sums.
		ahead, body := strings.Join(x.blocks, ""), x.body()
		for n := range body {
			wantNoFile(t, "a beginning of a footer", wrapped(ahead, 1, body[:n], "", len(ahead)))
			wantNoFile(t, "a footer with a byte too many", wrapped(ahead, 1, body[:n]+"\x00"+body[n:], "", len(ahead)))
		}
	}
	wantNoFile(t, "nothing", nil)
	wantNoFile(t, "zeros", make([]byte, 8))
	wantNoFile(t, "more zeros", make([]byte, 1000))
	for place := range 40 {
		wantNoFile(t, "an end alone", []byte(sealed(four(place))))
		wantNoFile(t, "an end behind zeros", []byte(long(30)+sealed(four(place))))
	}
}

// P15.1: each number of the footer in the only form, and within 64 bits.
func TestNumbersOfFooter(t *testing.T) {
	ahead := block2(7, 8) + block2(9)
	parts := []string{"\x01\x00", "\x03", "\x02", "\x02", plainPut(uint64(len(block2(7, 8)))), plainPut(uint64(len(block2(9))))}
	if wantOpen(t, wrapped(ahead, 1, strings.Join(parts, ""), "", len(ahead))) == nil {
		t.Error("the footer of the test is wrong")
	}
	for i := 1; i < len(parts); i++ {
		c := parts[i][0]
		for _, form := range []string{string([]byte{c | 0x80, 0}), string([]byte{c | 0x80, 0x80, 0}), string([]byte{c | 0x80, 1}), string([]byte{c | 0x80, 0x80, 0x80, 0x80, 0x10}), string([]byte{c | 0x80, 0x80, 0x80, 0x80, 0x80, 0x80, 0x80, 0x80, 0x80, 1}), string([]byte{c | 0x80, 0x80, 0x80, 0x80, 0x80, 0x80, 0x80, 0x80, 0x80, 2}), ""} {
			other := slices.Clone(parts)
			other[i] = form
			wantNoFile(t, "a number in another form", wrapped(ahead, 1, strings.Join(other, ""), "", len(ahead)))
		}
	}
}

// P15.1, P15.2: footers of which some bytes are others, under right sums.
func TestTurnedFooters(t *testing.T) {
	rnd := rand.New(rand.NewPCG(15, 2))
	files := 0
	for _, x := range []laid{cellsFile(), keysFile()} {
		ahead, body := strings.Join(x.blocks, ""), []byte(x.body())
		for i := range body {
			for c := range 256 {
				other := slices.Clone(body)
				other[i] = byte(c)
				if wantOpen(t, wrapped(ahead, 1, string(other), "", len(ahead))) != nil {
					files++
				}
			}
		}
		for range 5000 {
			other := slices.Clone(body)
			for range 1 + rnd.IntN(3) {
				i := rnd.IntN(len(other))
				switch rnd.IntN(4) {
				case 0:
					other = slices.Delete(other, i, i+1)
				case 1:
					other = slices.Insert(other, i, byte(rnd.IntN(6)))
				default:
					other[i] += byte(rnd.IntN(7)) - 3
				}
			}
			if wantOpen(t, wrapped(ahead, 1, string(other), "", len(ahead))) != nil {
				files++
			}
		}
	}
	if files < 100 {
		t.Errorf("only %d footers were right", files)
	}
}

// P15.2: all numbers from which on, and of how many.
func TestRead(t *testing.T) {
	for per := 1; per <= 8; per++ {
		for _, n := range []int{0, 1, 6, 7} {
			f, p := opened(t, wantBuild(t, api.KI16, per, cellsOf(api.KI16, n)))
			for from := -2; from <= n+3; from++ {
				for k := -2; k <= n+3; k++ {
					wantRead(t, f, p, from, k)
				}
				for _, k := range []int{math.MinInt, math.MaxInt - 1, math.MaxInt, math.MaxInt - from + 1} {
					wantRead(t, f, p, from, k)
				}
			}
			for _, from := range []int{math.MinInt, math.MinInt + 1, 1 << 32, math.MaxInt - 1, math.MaxInt} {
				for _, k := range []int{math.MinInt, -1, 0, 1, 2, math.MaxInt - 1, math.MaxInt} {
					wantRead(t, f, p, from, k)
				}
			}
		}
	}
	f, p := opened(t, wantBuild(t, api.KBytes, 100, unlike(1000)))
	rnd := rand.New(rand.NewPCG(15, 3))
	for range 50 {
		from := rnd.IntN(1000)
		wantRead(t, f, p, from, rnd.IntN(1001-from))
	}
}

// P15.2: a block that isn't right is told where it is read, and nowhere else.
func TestWrongBlocks(t *testing.T) {
	nulls, _ := block.Encode(api.KI8, api.CPlain, null, null)
	turned := []byte(block2(1, 2))
	turned[3] ^= 4
	for _, wrong := range []string{"", "x", block2(1), block2(1, 2, 3), block2(), string(turned), block2(1, 2)[:5], block2(1, 2) + "x", block2(1000), textBlock("a", "b"), sealed("\x02\x02\x00\x00"), sealed(""), long(65000)} {
		for i := range 3 {
			for _, last := range []string{block2(9), block2(9, 10)} {
				x := laid{frame: 1, kind: api.KI8, rows: 8, per: 2, count: 4, blocks: []string{block2(1, 2), string(nulls), block2(5, 6), last}}
				if len(last) == len(block2(9)) {
					x.rows = 7
				}
				x.blocks[i] = wrong
				wantFileOf(t, "a file with a wrong block", x)
				f, _ := opened(t, x.file())
				for from := range 6 {
					_, e := f.Read(from, 1)
					if (e == api.ErrCorrupt) != (from/2 == i) {
						t.Errorf("block %d is %x: Read(%d, 1): %d", i, short([]byte(wrong)), from, e)
					}
				}
			}
		}
	}
	// The last block has the rest, neither all nor none.
	for rows := uint64(1); rows <= 4; rows++ {
		for n := range 6 {
			x := laid{frame: 1, kind: api.KI8, rows: 4 + rows, per: 4, count: 2, blocks: []string{block2(1, 2, 3, 4), block2(make([]int64, n)...)}}
			wantFileOf(t, "a file with such a last block", x)
			f, _ := opened(t, x.file())
			if _, e := f.Read(4, int(rows)); (e == api.OK) != (n == int(rows)) {
				t.Errorf("%d cells for %d: %d", n, rows, e)
			}
		}
	}
	// Blocks of another kind are as that kind reads them.
	for _, kind := range kinds {
		x := cellsFile()
		x.kind = kind
		wantFileOf(t, "a file of another kind", x)
	}
}

// P15.2, P15.3: where each key stands, or would stand.
func TestSeek(t *testing.T) {
	rnd := rand.New(rand.NewPCG(15, 4))
	for range 60 {
		var all []string
		for range rnd.IntN(30) {
			b := make([]byte, rnd.IntN(4))
			for i := range b {
				b[i] = "\x00a\x7f\x80\xff"[rnd.IntN(5)]
			}
			all = append(all, string(b))
		}
		slices.Sort(all)
		all = slices.Compact(all)
		for per := 1; per <= len(all)+1; per++ {
			f, p := opened(t, wantBuildKeys(t, per, bytesOf(all...)))
			asked := append(slices.Clone(all), "", "\x00", "\xff\xff\xff\xff", long(200), long(201), long(5000))
			for _, key := range all {
				asked = append(asked, key+"\x00", key+"\xff", key[:len(key)/2])
			}
			for _, key := range asked {
				wantSeek(t, f, p, key)
				want, found := slices.BinarySearch(all, key)
				if at, ok, e := f.Seek([]byte(key)); at != want || ok != found || e != api.OK {
					t.Errorf("Seek(%q) in %q, %d to a block = %d, %t, %d", key, all, per, at, ok, e)
				}
			}
			wantSeek(t, f, p, "")
			if at, ok, e := f.Seek(nil); at != 0 || ok != (len(all) > 0 && all[0] == "") || e != api.OK {
				t.Errorf("Seek(nil) = %d, %t, %d", at, ok, e)
			}
		}
	}
	f, p := opened(t, wantBuildKeys(t, 100, keysOf(4096)))
	for i := range 4097 {
		wantSeek(t, f, p, "key "+strconv.Itoa(100000+3*i))
		wantSeek(t, f, p, "key "+strconv.Itoa(100000+3*i-1))
	}
}

// P15.2: a file that is none of keys finds none, whatever it holds.
func TestSeekNoKeys(t *testing.T) {
	for _, kind := range kinds {
		for _, n := range []int{0, 5} {
			f, _ := opened(t, wantBuild(t, kind, 2, cellsOf(kind, n)))
			for _, key := range []string{"", "a", "cell 0", long(300)} {
				if at, ok, e := f.Seek([]byte(key)); at != 0 || ok || e != api.ErrArg {
					t.Errorf("Seek = %d, %t, %d", at, ok, e)
				}
			}
		}
	}
}

// P15.2: which block is read hangs on the footer alone, and what is counted on that block alone.
func TestSeekOtherBlocks(t *testing.T) {
	good := keysFile()
	nulls, _ := block.Encode(api.KBytes, api.CPlain, null, text("b"))
	allNull, _ := block.Encode(api.KBytes, api.CPlain, null, null)
	for _, x := range []struct {
		first, second, third string
		firsts               []string
	}{
		{good.blocks[0], good.blocks[1], good.blocks[2], good.firsts},
		{"", good.blocks[1], good.blocks[2], good.firsts},
		{good.blocks[0], "x", good.blocks[2], good.firsts},
		{good.blocks[0], good.blocks[1], "x", good.firsts},
		{good.blocks[0], good.blocks[1], textBlock("e", "f"), good.firsts},
		{textBlock("a"), good.blocks[1], good.blocks[2], good.firsts},
		{textBlock("a", "b", "bb"), good.blocks[1], good.blocks[2], good.firsts},
		// Keys that don't rise: counted up to the first that isn't ahead.
		{textBlock("b", "a"), textBlock("d", "c"), textBlock("a"), good.firsts},
		{textBlock("z", "a"), textBlock("a", "z"), textBlock("z"), good.firsts},
		{textBlock("a", "a"), textBlock("c", "c"), textBlock(""), good.firsts},
		// Other first keys than the footer tells.
		{good.blocks[0], good.blocks[1], good.blocks[2], []string{"", "b", "z"}},
		{good.blocks[0], good.blocks[1], good.blocks[2], []string{"x", "y", "z"}},
		{good.blocks[0], good.blocks[1], good.blocks[2], []string{"", "\x00", "\x01"}},
		// A null is no key, and stands ahead of all.
		{string(nulls), string(allNull), good.blocks[2], []string{"", "c", "e"}},
		{string(allNull), string(nulls), good.blocks[2], []string{"", "c", "e"}},
	} {
		f := good
		f.blocks, f.firsts = []string{x.first, x.second, x.third}, x.firsts
		wantFileOf(t, "a file of keys", f)
		file, p := opened(t, f.file())
		for c := range 256 {
			for _, key := range []string{"", string([]byte{byte(c)}), string([]byte{byte(c), 0}), string([]byte{'b', byte(c)})} {
				wantSeek(t, file, p, key)
			}
		}
	}
	f := good
	f.blocks = []string{"x", good.blocks[1], "x"}
	file, _ := opened(t, f.file())
	for _, x := range []struct {
		key string
		at  int
		ok  bool
		e   api.Errno
	}{{"", 0, false, api.OK}, {"A", 0, false, api.OK}, {"a", 0, false, api.ErrCorrupt}, {"b\xff", 0, false, api.ErrCorrupt}, {"c", 2, true, api.OK}, {"d\x00", 4, false, api.OK}, {"e", 0, false, api.ErrCorrupt}, {"z", 0, false, api.ErrCorrupt}} {
		if at, ok, e := file.Seek([]byte(x.key)); at != x.at || ok != x.ok || e != x.e {
			t.Errorf("Seek(%q) = %d, %t, %d", x.key, at, ok, e)
		}
	}
}

// P15.1, P15.3: files of all sorts.
func TestRandom(t *testing.T) {
	rnd := rand.New(rand.NewPCG(15, 5))
	for range 300 {
		kind := kinds[rnd.IntN(len(kinds))]
		var cells []api.Cell
		for range rnd.IntN(200) {
			switch {
			case rnd.IntN(9) == 0:
				cells = append(cells, null)
			case kind == api.KBool:
				cells = append(cells, number(int64(rnd.IntN(2))))
			case kind <= api.KU16:
				cells = append(cells, number(int64(rnd.IntN(128))))
			default:
				cells = append(cells, text(long(rnd.IntN(100))+strconv.Itoa(rnd.IntN(9))))
			}
		}
		per := 1 + rnd.IntN(1+rnd.IntN(100))
		f, p := opened(t, wantBuild(t, kind, per, cells))
		for range 10 {
			from := rnd.IntN(len(cells) + 1)
			n := rnd.IntN(len(cells) - from + 1)
			wantRead(t, f, p, from, n)
			if told, e := f.Read(from, n); !same(told, cells[from:from+n]) || e != api.OK {
				t.Errorf("Read(%d, %d) = %v, %d", from, n, short(told), e)
			}
		}
	}
}

// wantTurned turns the bits of a run, each where mask has a 1: every answer is what it would have been, or ErrCorrupt.
func wantTurned(t *testing.T, b []byte, p *plain, from int, mask uint64) {
	t.Helper()
	turned := slices.Clone(b)
	for k := range 32 {
		if place := from + k; mask>>k&1 == 1 && place < 8*len(b) {
			turned[place/8] ^= 1 << (place % 8)
		}
	}
	f, e := cfile.Open(turned)
	if e != api.OK {
		if f != nil || e != api.ErrCorrupt {
			t.Errorf("turned at %d by %x: %v, %d", from, mask, f, e)
		}
		return
	}
	if f.Kind() != p.kind || f.Rows() != p.rows || f.Blocks() != len(p.blocks) || f.Keys() != p.keys {
		t.Errorf("turned at %d by %x: another file", from, mask)
		return
	}
	told := 0
	for n := range p.rows + 1 {
		for at := 0; at+n <= p.rows; at += max(n, 1) {
			cells, e := f.Read(at, n)
			want, _ := p.read(at, n)
			if (e != api.OK || !same(cells, want)) && (e != api.ErrCorrupt || cells != nil) {
				t.Errorf("turned at %d by %x: Read(%d, %d) = %v, %d", from, mask, at, n, cells, e)
			}
			if e == api.ErrCorrupt {
				told++
			}
		}
	}
	if told == 0 && !bytes.Equal(turned, b) {
		t.Errorf("turned at %d by %x: nobody has told it", from, mask)
	}
	for _, key := range []string{"", "a", "b", "c", "d\x00", "e", "z"} {
		at, ok, e := f.Seek([]byte(key))
		want, wantOk, wantErr := p.seek(key)
		if (at != want || ok != wantOk || e != wantErr) && (at != 0 || ok || e != api.ErrCorrupt) {
			t.Errorf("turned at %d by %x: Seek(%q) = %d, %t, %d", from, mask, key, at, ok, e)
		}
	}
}

// P15.4, P6: any run of at most 32 bits that is turned.
func TestTurnedBits(t *testing.T) {
	rnd := rand.New(rand.NewPCG(15, 6))
	for _, b := range [][]byte{cellsFile().file(), keysFile().file(), wantBuild(t, api.KStr, 2, nil), wantBuild(t, api.KStr, 1, texts("a", "", "bc"))} {
		_, p := opened(t, b)
		for from := range 8 * len(b) {
			for size := 1; size <= 32; size++ {
				wantTurned(t, b, p, from, 1<<size-1)
			}
			for range 10 {
				wantTurned(t, b, p, from, 1|rnd.Uint64()>>32)
			}
			for mask := uint64(1); mask < 32; mask += 2 {
				wantTurned(t, b, p, from, mask)
			}
		}
	}
}

const mark = 0xa5

// roomy is bytes with room behind that is filled.
func roomy(b []byte) []byte {
	all := slices.Concat(b, bytes.Repeat([]byte{mark}, 9))
	return all[:len(b)]
}

func isMarked(b []byte) bool {
	return bytes.Equal(b, bytes.Repeat([]byte{mark}, len(b)))
}

// fill writes over a list and its spare room.
func fill(b []byte) {
	b = b[:cap(b)]
	for i := range b {
		b[i] = mark
	}
}

// P15.5: neither what is handed in is changed, nor what lies behind its length.
func TestArgumentsStay(t *testing.T) {
	for _, x := range [][]string{nil, {"a"}, {"a", "b", "cd", "e", "fgh"}, {"b", "a"}, {"", long(200), long(201)}} {
		for per := 1; per <= 6; per++ {
			cells, keys := make([]api.Cell, len(x), len(x)+9), make([][]byte, len(x), len(x)+9)
			for i, s := range x {
				cells[i].B, keys[i] = roomy([]byte(s)), roomy([]byte(s))
			}
			for i := range 9 {
				cells[:cap(cells)][len(x)+i] = api.Cell{Int: mark}
				keys[:cap(keys)][len(x)+i] = []byte{mark}
			}
			cfile.Build(api.KBytes, per, cells...)
			cfile.BuildKeys(per, keys...)
			for i, s := range x {
				if string(cells[i].B) != s || string(keys[i]) != s || !isMarked(cells[i].B[len(s):len(s)+9]) || !isMarked(keys[i][len(s):len(s)+9]) {
					t.Errorf("cell %d or key %d has changed", i, i)
				}
			}
			for i := range 9 {
				if c, key := cells[:cap(cells)][len(x)+i], keys[:cap(keys)][len(x)+i]; c.Int != mark || c.B != nil || !bytes.Equal(key, []byte{mark}) {
					t.Errorf("spare room has changed: %v, %x", c, key)
				}
			}
		}
	}
	b := roomy(keysFile().file())
	f, p := opened(t, b)
	wantSame(t, f, p)
	if !bytes.Equal(b, keysFile().file()) || !isMarked(b[len(b):len(b)+9]) {
		t.Errorf("bytes changed: %x", b)
	}
	key := roomy([]byte("d"))
	f.Seek(key)
	if string(key) != "d" || !isMarked(key[1:10]) {
		t.Errorf("key changed: %x", key[:10])
	}
}

// P15.5: nothing that is handed in is kept.
func TestNothingIsKept(t *testing.T) {
	for _, x := range []laid{cellsFile(), keysFile()} {
		b := x.file()
		f, p := opened(t, b)
		fill(b)
		wantSame(t, f, p)
		key := []byte("c")
		f.Seek(key)
		fill(key)
		wantSame(t, f, p)
	}
	cells, keys := texts("a", "b", "c"), bytesOf("a", "b", "c")
	b, _ := cfile.Build(api.KBytes, 2, cells...)
	k, _ := cfile.BuildKeys(2, keys...)
	want, wantKeys := slices.Clone(b), slices.Clone(k)
	for i := range cells {
		fill(cells[i].B)
		fill(keys[i])
	}
	clear(cells)
	clear(keys)
	if !bytes.Equal(b, want) || !bytes.Equal(k, wantKeys) {
		t.Error("what was built has changed")
	}
}

// P15.5: what is answered is seen by nobody else, and no two lists of one answer share.
func TestAnswersAreNew(t *testing.T) {
	b := keysFile().file()
	f, p := opened(t, b)
	built, _ := cfile.BuildKeys(2, bytesOf("a", "b", "c", "d", "e")...)
	if !bytes.Equal(built, b) {
		t.Fatalf("the test's file is %x", b)
	}
	for range 3 {
		for from := range 5 {
			cells, e := f.Read(from, 5-from)
			if e != api.OK {
				t.Errorf("Read(%d) = %d", from, e)
			}
			all := cells[:cap(cells)]
			for i := range all {
				full := all[i].B[:cap(all[i].B)]
				for k := range full {
					full[k] = byte(i)
				}
			}
			for i := range all {
				full := all[i].B[:cap(all[i].B)]
				if !bytes.Equal(full, bytes.Repeat([]byte{byte(i)}, len(full))) {
					t.Error("two lists of one answer share")
				}
				all[i] = api.Cell{Int: 99, B: []byte("zzz")}
			}
			wantSame(t, f, p)
		}
		again, _ := cfile.BuildKeys(2, bytesOf("a", "b", "c", "d", "e")...)
		fill(built)
		if !bytes.Equal(again, b) {
			t.Error("two answers share")
		}
		built = again
	}
}

// P2: asked again, the same; two files of the same bytes are two.
func TestAskedAgain(t *testing.T) {
	f, p := opened(t, keysFile().file())
	g, q := opened(t, cellsFile().file())
	for range 10 {
		wantSame(t, f, p)
		wantSame(t, g, q)
		wantBuild(t, api.KI8, 2, numbers(7, 8, 9))
		wantBuild(t, api.KI8, 2, numbers(7, 8, 900))
		wantBuildKeys(t, 2, bytesOf("a", "b", "c"))
		wantBuildKeys(t, 2, bytesOf("a", "c", "b"))
		wantNoFile(t, "nothing", nil)
	}
}
