package rowset_test

import (
	"bytes"
	"cmp"
	"hash/crc32"
	"math"
	"math/rand/v2"
	"slices"
	"strconv"
	"strings"
	"testing"
	"time"
	"unsafe"

	"stoa/api"
	"stoa/block"
	"stoa/bloom"
	"stoa/cell"
	"stoa/cfile"
	"stoa/delta"
	"stoa/keys"
	"stoa/memstore"
	"stoa/rowset"
	"stoa/schema"
	"stoa/vint"
)

// The helpers beneath say in the plainest way what the chapter says. For cells by columns, filters and deltas they ask the layers that the chapter names; states and stories they find themselves.

const most = int64(1) << 40 // MaxTime

func number(v int64) api.Cell { return api.Cell{Int: v} }

func text(s string) api.Cell { return api.Cell{B: []byte(s)} }

func null() api.Cell { return api.Cell{Null: true} }

// table is the schema of the chapter's examples.
func table() api.Schema {
	return api.Schema{Cols: []api.Column{{Name: "id", Kind: api.KI32}, {Name: "name", Kind: api.KStr}}, Keys: 1}
}

// wide has columns of unlike kinds, some of which may be null.
func wide() api.Schema {
	return api.Schema{Cols: []api.Column{{Name: "id", Kind: api.KI32}, {Name: "name", Kind: api.KStr}, {Name: "note", Kind: api.KI8, Null: true}, {Name: "raw", Kind: api.KBytes, Null: true}}, Keys: 1}
}

func insert(time int64, row ...api.Cell) api.Change {
	return api.Change{Time: time, Kind: api.OInsert, Row: row}
}

func update(time int64, sets ...api.Set) api.Change {
	return api.Change{Time: time, Kind: api.OUpdate, Sets: sets}
}

func remove(time int64) api.Change {
	return api.Change{Time: time, Kind: api.ODelete}
}

func set(col int, c api.Cell) api.Set {
	return api.Set{Col: col, Cell: c}
}

func keyOf(s api.Schema, cells ...api.Cell) []byte {
	key, _ := keys.Encode(s, cells)
	return key
}

// story is that of the chapter's example.
func story() api.History {
	return api.History{Key: keyOf(table(), number(7)), Changes: []api.Change{insert(3, number(7), text("x")), update(5, set(1, text("y"))), remove(8)}}
}

func sameCell(a, b api.Cell) bool {
	return a.Null == b.Null && a.Int == b.Int && bytes.Equal(a.B, b.B)
}

func sameRow(a, b []api.Cell) bool {
	return slices.EqualFunc(a, b, sameCell)
}

func sameRows(a, b [][]api.Cell) bool {
	return slices.EqualFunc(a, b, sameRow)
}

func sameSet(a, b api.Set) bool {
	return a.Col == b.Col && sameCell(a.Cell, b.Cell)
}

func sameChange(a, b api.Change) bool {
	return a.Time == b.Time && a.Kind == b.Kind && sameRow(a.Row, b.Row) && slices.EqualFunc(a.Sets, b.Sets, sameSet)
}

func sameHistory(a, b api.History) bool {
	return bytes.Equal(a.Key, b.Key) && slices.EqualFunc(a.Changes, b.Changes, sameChange)
}

func sameHistories(a, b []api.History) bool {
	return slices.EqualFunc(a, b, sameHistory)
}

func sameKeys(a, b [][]byte) bool {
	return slices.EqualFunc(a, b, bytes.Equal)
}

func sameFiles(a, b []api.File) bool {
	return slices.EqualFunc(a, b, func(x, y api.File) bool { return x.Name == y.Name && bytes.Equal(x.Data, y.Data) })
}

// between are the changes above one time and up to another.
func between(changes []api.Change, above, upto int64) []api.Change {
	return slices.DeleteFunc(slices.Clone(changes), func(c api.Change) bool { return c.Time <= above || c.Time > upto })
}

// plainBehind is the state behind changes: the last of them that isn't an update says what there is, and of each column of a row that is there the last set behind it that there is.
func plainBehind(state []api.Cell, live bool, changes []api.Change) ([]api.Cell, bool) {
	from := len(changes) - 1
	for from >= 0 && changes[from].Kind == api.OUpdate {
		from--
	}
	if from >= 0 {
		state, live = changes[from].Row, changes[from].Kind == api.OInsert
	}
	if !live {
		return nil, false
	}
	state = slices.Clone(state)
	for col := range state {
		for _, c := range changes[from+1:] {
			for _, set := range c.Sets {
				if set.Col == col {
					state[col] = set.Cell
				}
			}
		}
	}
	return state, true
}

func plainState(changes []api.Change, t int64) ([]api.Cell, bool) {
	return plainBehind(nil, false, between(changes, math.MinInt64, t))
}

// plainUndo takes back the i-th change of a chain.
func plainUndo(changes []api.Change, i int) api.Change {
	c := changes[i]
	ahead, _ := plainBehind(nil, false, changes[:i])
	switch c.Kind {
	case api.OInsert:
		return remove(c.Time)
	case api.ODelete:
		return insert(c.Time, ahead...)
	}
	undo := update(c.Time)
	for _, x := range c.Sets {
		undo.Sets = append(undo.Sets, set(x.Col, ahead[x.Col]))
	}
	return undo
}

func four(u uint32) []byte {
	return []byte{byte(u), byte(u >> 8), byte(u >> 16), byte(u >> 24)}
}

// framed is a frame with the library's sums.
func framed(kind byte, body []byte) []byte {
	castagnoli := crc32.MakeTable(crc32.Castagnoli)
	head := append([]byte{kind}, four(uint32(len(body)))...)
	return slices.Concat(head, four(crc32.Checksum(head, castagnoli)), body, four(crc32.Checksum(body, castagnoli)))
}

func numbers(us ...uint64) []byte {
	var b []byte
	for _, u := range us {
		b = append(b, vint.Put(u)...)
	}
	return b
}

// plain is a rowset as the stories of its rows.
type plain struct {
	s           api.Schema
	base, floor int64
	per         int
	hs          []api.History
	bad         map[string][]int // of a file, the blocks that aren't right
}

// plainErr is the first error of what is handed to Build, but for those of what is left.
func plainErr(s api.Schema, base, floor int64, per int, hs []api.History) api.Errno {
	if schema.Check(s) != api.OK {
		return api.ErrSchema
	}
	if per <= 0 || per > 4096 || floor < 0 || floor > base || base > most {
		return api.ErrArg
	}
	for i := range hs {
		if i > 0 && string(hs[i].Key) <= string(hs[i-1].Key) {
			return api.ErrOrder
		}
		if e := memstore.Chain(s, hs[i].Key, hs[i].Changes...); e != api.OK {
			return e
		}
	}
	return api.OK
}

func plainBuild(s api.Schema, base, floor int64, per int, hs []api.History) (*plain, []api.File, api.Errno) {
	if e := plainErr(s, base, floor, per, hs); e != api.OK {
		return nil, nil, e
	}
	p := &plain{s: s, base: base, floor: floor, per: per}
	for _, h := range hs {
		_, live := plainState(h.Changes, base)
		if live || len(between(h.Changes, floor, base)) > 0 {
			p.hs = append(p.hs, h)
		}
	}
	if len(p.hs) == 0 {
		return nil, nil, api.ErrMissing
	}
	if len(p.hs) > 4096 {
		return nil, nil, api.ErrLong
	}
	files, e := p.files()
	if e != api.OK {
		return nil, nil, e
	}
	return p, files, api.OK
}

// cells are those of a column at the base.
func (p *plain) cells(col int) []api.Cell {
	var all []api.Cell
	for _, h := range p.hs {
		row, live := plainState(h.Changes, p.base)
		switch {
		case live:
			all = append(all, row[col])
		case p.s.Cols[col].Null:
			all = append(all, null())
		case cell.Number(p.s.Cols[col].Kind):
			all = append(all, number(0))
		default:
			all = append(all, text(""))
		}
	}
	return all
}

func (p *plain) lives() []api.Cell {
	var all []api.Cell
	for _, h := range p.hs {
		if _, live := plainState(h.Changes, p.base); live {
			all = append(all, number(1))
		} else {
			all = append(all, number(0))
		}
	}
	return all
}

func (p *plain) keys() [][]byte {
	var all [][]byte
	for _, h := range p.hs {
		all = append(all, h.Key)
	}
	return all
}

func (p *plain) undo() *delta.Delta {
	d := delta.New()
	for i, h := range p.hs {
		for k, c := range h.Changes {
			if c.Time <= p.base && c.Time > p.floor {
				d.Add(api.Place{Row: i, Time: c.Time}, plainUndo(h.Changes, k))
			}
		}
	}
	return d
}

func colName(col int) string {
	return "col-" + string([]byte{'0' + byte(col)/10, '0' + byte(col)%10})
}

func (p *plain) files() ([]api.File, api.Errno) {
	filter := bloom.New(len(p.hs))
	for _, key := range p.keys() {
		filter.Add(key)
	}
	undo, e := p.undo().Encode(p.s)
	if e != api.OK {
		return nil, e
	}
	keys, e := cfile.BuildKeys(p.per, p.keys()...)
	if e != api.OK {
		return nil, e
	}
	live, e := cfile.Build(api.KBool, p.per, p.lives()...)
	if e != api.OK {
		return nil, e
	}
	files := []api.File{
		{Name: "undo", Data: undo},
		{Name: "live", Data: live},
		{Name: "keys", Data: keys},
		{Name: "bloom", Data: filter.Encode()},
		{Name: "base", Data: framed(1, numbers(uint64(p.base), uint64(p.floor), uint64(len(p.hs))))},
	}
	for col := p.s.Keys; col < len(p.s.Cols); col++ {
		b, e := cfile.Build(p.s.Cols[col].Kind, p.per, p.cells(col)...)
		if e != api.OK {
			return nil, e
		}
		files = append(files, api.File{Name: colName(col), Data: b})
	}
	slices.SortFunc(files, func(a, b api.File) int { return cmp.Compare(a.Name, b.Name) })
	return files, api.OK
}

// redos are changes above the base as a plain list by row, and as the delta that is handed in.
type redos struct {
	of map[int][]api.Change
	d  *delta.Delta
}

func newRedos() redos {
	return redos{map[int][]api.Change{}, delta.New()}
}

func (r redos) add(row int, c api.Change) {
	if r.d.Add(api.Place{Row: row, Time: c.Time}, c) == api.OK {
		r.of[row] = append(r.of[row], c)
		slices.SortFunc(r.of[row], func(a, b api.Change) int { return cmp.Compare(a.Time, b.Time) })
	}
}

// isBad tells whether a block in which the i-th row lies isn't right.
func (p *plain) isBad(i int, files ...string) bool {
	for _, name := range files {
		if slices.Contains(p.bad[name], i/p.per) {
			return true
		}
	}
	return false
}

// columns are the files that have a cell for each row, but for the keys.
func (p *plain) columns() []string {
	names := []string{"live"}
	for col := p.s.Keys; col < len(p.s.Cols); col++ {
		names = append(names, colName(col))
	}
	return names
}

// state is the i-th row's state: up to the base by its story, above it by the redo.
func (p *plain) state(i int, t int64, redo redos) ([]api.Cell, bool) {
	state, live := plainState(p.hs[i].Changes, min(t, p.base))
	return plainBehind(state, live, between(redo.of[i], p.base, t))
}

func (p *plain) row(i int, t int64, redo redos) ([]api.Cell, bool, api.Errno) {
	if i < 0 || i >= len(p.hs) {
		return nil, false, api.ErrArg
	}
	if t < p.floor {
		return nil, false, api.ErrOld
	}
	if p.isBad(i, append(p.columns(), "keys")...) {
		return nil, false, api.ErrCorrupt
	}
	row, ok := p.state(i, t, redo)
	return row, ok, api.OK
}

func (p *plain) scan(low, high string, t int64, redo redos) (found [][]byte, rows [][]api.Cell, e api.Errno) {
	if t < p.floor {
		return nil, nil, api.ErrOld
	}
	if len(p.bad["keys"]) > 0 {
		return nil, nil, api.ErrCorrupt
	}
	for i, h := range p.hs {
		if string(h.Key) < low || high != "" && string(h.Key) >= high {
			continue
		}
		if p.isBad(i, p.columns()...) {
			return nil, nil, api.ErrCorrupt
		}
		if row, ok := p.state(i, t, redo); ok {
			found, rows = append(found, h.Key), append(rows, row)
		}
	}
	return found, rows, api.OK
}

func (p *plain) histories(redo redos) ([]api.History, api.Errno) {
	var all []api.History
	for i, h := range p.hs {
		if p.isBad(i, append(p.columns(), "keys")...) {
			return nil, api.ErrCorrupt
		}
		told := api.History{Key: h.Key}
		if row, ok := plainState(h.Changes, p.floor); ok {
			told.Changes = append(told.Changes, insert(p.floor, row...))
		}
		told.Changes = append(told.Changes, between(h.Changes, p.floor, p.base)...)
		told.Changes = append(told.Changes, between(redo.of[i], p.base, math.MaxInt64)...)
		if len(told.Changes) > 0 {
			all = append(all, told)
		}
	}
	return all, api.OK
}

func (p *plain) bounds() ([]byte, []byte, api.Errno) {
	if p.isBad(0, "keys") || p.isBad(len(p.hs)-1, "keys") {
		return nil, nil, api.ErrCorrupt
	}
	return p.hs[0].Key, p.hs[len(p.hs)-1].Key, api.OK
}

func (p *plain) find(key string) (int, bool, api.Errno) {
	filter := bloom.New(len(p.hs))
	filter.Add(p.keys()...)
	if !filter.Has([]byte(key)) {
		return 0, false, api.OK
	}
	last := -1 // the last row whose key is at most this one
	for i, h := range p.hs {
		if string(h.Key) <= key {
			last = i
		}
	}
	if last < 0 {
		return 0, false, api.OK
	}
	if p.isBad(last, "keys") {
		return 0, false, api.ErrCorrupt
	}
	if string(p.hs[last].Key) != key {
		return 0, false, api.OK
	}
	return last, true, api.OK
}

// times are all at which something may be told otherwise, and far ones.
func (p *plain) times(redo redos) []int64 {
	all := []int64{math.MinInt64, -1, 0, p.floor - 1, p.floor, p.floor + 1, p.base - 1, p.base, p.base + 1, most, math.MaxInt64}
	for i, h := range p.hs {
		for _, c := range append(slices.Clone(h.Changes), redo.of[i]...) {
			all = append(all, c.Time-1, c.Time)
		}
	}
	slices.Sort(all)
	return slices.Compact(all)
}

// asked are keys around those that there are.
func (p *plain) asked() []string {
	all := []string{"", "\x00", "\x7f", "\x80", "a", "\xff\xff\xff\xff\xff\xff\xff\xff\xff"}
	for _, h := range p.hs {
		key := string(h.Key)
		all = append(all, key, key+"\x00", key[:len(key)-1], key[:len(key)-1]+string([]byte{key[len(key)-1] + 1}))
	}
	slices.Sort(all)
	return slices.Compact(all)
}

func wantRow(t *testing.T, x *rowset.Set, p *plain, i int, at int64, redo redos) {
	t.Helper()
	want, ok, e := p.row(i, at, redo)
	row, is, err := x.Row(i, at, redo.d)
	if err != e || is != ok || !sameRow(row, want) || !is && row != nil {
		t.Fatalf("base %d, floor %d: Row(%d, %d) = %v, %t, %d; want %v, %t, %d", p.base, p.floor, i, at, row, is, err, want, ok, e)
	}
}

func wantScan(t *testing.T, x *rowset.Set, p *plain, low, high string, at int64, redo redos) {
	t.Helper()
	ks, rows, e := p.scan(low, high, at, redo)
	found, told, err := x.Scan([]byte(low), []byte(high), at, redo.d)
	if err != e || !sameKeys(found, ks) || !sameRows(told, rows) || len(ks) == 0 && (found != nil || told != nil) {
		t.Fatalf("base %d, floor %d: Scan(%q, %q, %d) = %q, %v, %d; want %q, %v, %d", p.base, p.floor, low, high, at, found, told, err, ks, rows, e)
	}
}

func wantFind(t *testing.T, x *rowset.Set, p *plain, key string) {
	t.Helper()
	want, ok, e := p.find(key)
	if i, is, err := x.Find([]byte(key)); i != want || is != ok || err != e {
		t.Fatalf("Find(%q) = %d, %t, %d; want %d, %t, %d", key, i, is, err, want, ok, e)
	}
}

func wantHistories(t *testing.T, x *rowset.Set, p *plain, redo redos) {
	t.Helper()
	want, e := p.histories(redo)
	if got, err := x.Histories(redo.d); err != e || !sameHistories(got, want) || e != api.OK && got != nil {
		t.Fatalf("base %d, floor %d: Histories = %v, %d; want %v, %d", p.base, p.floor, got, err, want, e)
	}
}

// same holds all that a rowset tells against the plain one.
func same(t *testing.T, rnd *rand.Rand, x *rowset.Set, p *plain, redo redos) {
	t.Helper()
	if x.Rows() != len(p.hs) || x.Base() != p.base || x.Floor() != p.floor {
		t.Fatalf("Rows %d, Base %d, Floor %d; want %d, %d, %d", x.Rows(), x.Base(), x.Floor(), len(p.hs), p.base, p.floor)
	}
	first, last, e := p.bounds()
	if a, b, err := x.Bounds(); err != e || !bytes.Equal(a, first) || !bytes.Equal(b, last) || e != api.OK && (a != nil || b != nil) {
		t.Fatalf("Bounds = %q, %q, %d; want %q, %q, %d", a, b, err, first, last, e)
	}
	wantHistories(t, x, p, redo)
	times, asked := p.times(redo), p.asked()
	for _, key := range asked {
		wantFind(t, x, p, key)
	}
	for _, at := range times {
		for i := -1; i <= len(p.hs); i++ {
			wantRow(t, x, p, i, at, redo)
		}
		wantScan(t, x, p, "", "", at, redo)
		for range 3 {
			wantScan(t, x, p, asked[rnd.IntN(len(asked))], asked[rnd.IntN(len(asked))], at, redo)
		}
	}
}

func schemaOf(rnd *rand.Rand) api.Schema {
	n := 1 + rnd.IntN(6)
	s := api.Schema{Keys: 1 + rnd.IntN(min(3, n))}
	for i := range n {
		s.Cols = append(s.Cols, api.Column{Name: "c" + strconv.Itoa(i), Kind: 1 + rnd.IntN(8), Null: i >= s.Keys && rnd.IntN(2) == 0})
	}
	return s
}

func cellOf(rnd *rand.Rand, col api.Column) api.Cell {
	switch {
	case col.Null && rnd.IntN(3) == 0:
		return null()
	case col.Kind == api.KBool:
		return number(rnd.Int64N(2))
	case cell.Number(col.Kind):
		return number(rnd.Int64N(5))
	}
	return text([]string{"", "a", "b", "ab"}[rnd.IntN(4)])
}

func rowOf(rnd *rand.Rand, cols []api.Column) []api.Cell {
	var row []api.Cell
	for _, col := range cols {
		row = append(row, cellOf(rnd, col))
	}
	return row
}

// changesOf is a chain of a key, the times of which are above one.
func changesOf(rnd *rand.Rand, s api.Schema, key []api.Cell, n int, there bool, above int64) []api.Change {
	var changes []api.Change
	time := above + 1 + rnd.Int64N(3)
	for range n {
		var sets []api.Set
		for col := s.Keys; col < len(s.Cols); col++ {
			if rnd.IntN(2) == 0 {
				sets = append(sets, set(col, cellOf(rnd, s.Cols[col])))
			}
		}
		switch {
		case !there:
			changes = append(changes, insert(time, append(slices.Clone(key), rowOf(rnd, s.Cols[s.Keys:])...)...))
			there = true
		case rnd.IntN(3) == 0:
			changes = append(changes, remove(time))
			there = false
		case len(sets) > 0:
			changes = append(changes, update(time, sets...))
		}
		time += 1 + rnd.Int64N(3)
	}
	return changes
}

// historiesOf are up to n histories of unlike keys, some without any change.
func historiesOf(rnd *rand.Rand, s api.Schema, n int) []api.History {
	all := map[string]api.History{}
	for range n {
		cells := rowOf(rnd, s.Cols[:s.Keys])
		key := keyOf(s, cells...)
		all[string(key)] = api.History{Key: key, Changes: changesOf(rnd, s, cells, rnd.IntN(8), false, rnd.Int64N(6)-1)}
	}
	var hs []api.History
	for _, h := range all {
		hs = append(hs, h)
	}
	slices.SortFunc(hs, func(a, b api.History) int { return bytes.Compare(a.Key, b.Key) })
	return hs
}

// redosOf are the changes above the base that the stories have; or any, also ones that make no story, up to the base, and of rows that there aren't.
func redosOf(rnd *rand.Rand, p *plain) redos {
	redo := newRedos()
	if rnd.IntN(2) == 0 {
		for i, h := range p.hs {
			for _, c := range h.Changes {
				if c.Time > p.base {
					redo.add(i, c)
				}
			}
		}
		return redo
	}
	for range rnd.IntN(3 * len(p.hs)) {
		c := api.Change{Time: max(0, p.base-3+rnd.Int64N(10)), Kind: 1 + rnd.IntN(3)}
		if rnd.IntN(4) == 0 && p.base+5 < most {
			c.Time = most - rnd.Int64N(3)
		}
		switch c.Kind {
		case api.OInsert:
			c.Row = rowOf(rnd, p.s.Cols)[:rnd.IntN(len(p.s.Cols)+1)]
		case api.OUpdate:
			col := rnd.IntN(len(p.s.Cols) + 1)
			c.Sets = []api.Set{set(col, number(9)), set(-1, number(8))}
		}
		redo.add(rnd.IntN(len(p.hs)+1), c)
	}
	return redo
}

// wantBuild holds Build against the plain one.
func wantBuild(t *testing.T, s api.Schema, base, floor int64, per int, hs ...api.History) (*plain, []api.File, api.Errno) {
	t.Helper()
	p, want, wantErr := plainBuild(s, base, floor, per, hs)
	files, e := rowset.Build(s, base, floor, per, hs...)
	if e != wantErr || !sameFiles(files, want) || e != api.OK && files != nil {
		t.Fatalf("Build(%v, %d, %d, %d, %d histories) = %d files, %d; want %d files, %d", s, base, floor, per, len(hs), len(files), e, len(want), wantErr)
	}
	return p, files, e
}

func opened(t *testing.T, s api.Schema, files []api.File) *rowset.Set {
	t.Helper()
	x, e := rowset.Open(s, files...)
	if e != api.OK || x == nil {
		t.Fatalf("Open = %v, %d", x, e)
	}
	return x
}

func TestExamples(t *testing.T) {
	none := delta.New()
	p, files, e := wantBuild(t, table(), 6, 0, 2, story())
	if e != api.OK {
		t.Fatalf("Build = %d", e)
	}
	x := opened(t, table(), files)
	for at, want := range map[int64]string{2: "", 4: "x", 6: "y", 8: "y"} {
		row, ok, e := x.Row(0, at, none)
		if e != api.OK || ok != (want != "") || ok && string(row[1].B) != want {
			t.Errorf("Row at %d = %v, %t, %d", at, row, ok, e)
		}
	}
	redo := newRedos()
	redo.add(0, remove(8))
	if _, ok, e := x.Row(0, 8, redo.d); ok || e != api.OK {
		t.Errorf("with the delete as redo it is there: %d", e)
	}
	same(t, rand.New(rand.NewPCG(21, 0)), x, p, redo)

	_, files, _ = wantBuild(t, table(), 6, 4, 2, story())
	x = opened(t, table(), files)
	if _, ok, e := x.Row(0, 3, none); ok || e != api.ErrOld {
		t.Errorf("below the floor Row = %t, %d", ok, e)
	}
	hs, e := x.Histories(none)
	if e != api.OK || len(hs) != 1 || !sameChange(hs[0].Changes[0], insert(4, number(7), text("x"))) || !sameChange(hs[0].Changes[1], update(5, set(1, text("y")))) {
		t.Errorf("Histories = %v, %d", hs, e)
	}
	if _, _, e := wantBuild(t, table(), 9, 8, 2, story()); e != api.ErrMissing {
		t.Errorf("of no row Build = %d", e)
	}
}

// P21.1: the files byte by byte.
func TestForm(t *testing.T) {
	hs := []api.History{
		{Key: keyOf(wide(), number(1)), Changes: []api.Change{insert(2, number(1), text("a"), null(), text("r")), remove(4)}},
		{Key: keyOf(wide(), number(2)), Changes: []api.Change{insert(3, number(2), text("b"), number(5), null()), update(5, set(1, text("c")), set(3, text("s")))}},
	}
	_, files, e := wantBuild(t, wide(), 5, 2, 1, hs...)
	if e != api.OK || len(files) != 8 {
		t.Fatalf("Build = %d files, %d", len(files), e)
	}
	b := func(kind int, cells ...api.Cell) string {
		data, e := cfile.Build(kind, 1, cells...)
		if e != api.OK {
			t.Fatalf("cfile.Build = %d", e)
		}
		return string(data)
	}
	filter := bloom.New(2)
	filter.Add(hs[0].Key, hs[1].Key)
	ks, _ := cfile.BuildKeys(1, hs[0].Key, hs[1].Key)
	row, _ := schema.PutRow(wide(), hs[0].Changes[0].Row)
	sets, _ := schema.PutSets(wide(), []api.Set{set(1, text("b")), set(3, null())})
	undo := slices.Concat(
		framed(api.OInsert, append([]byte{0, 4}, row...)),
		framed(api.ODelete, []byte{1, 3}),
		framed(api.OUpdate, append([]byte{1, 5}, sets...)))
	for i, want := range []struct{ name, data string }{
		{"base", string(framed(1, []byte{5, 2, 2}))},
		{"bloom", string(filter.Encode())},
		{"col-01", b(api.KStr, text(""), text("c"))},
		{"col-02", b(api.KI8, null(), number(5))},
		{"col-03", b(api.KBytes, null(), text("s"))},
		{"keys", string(ks)},
		{"live", b(api.KBool, number(0), number(1))},
		{"undo", string(undo)},
	} {
		if files[i].Name != want.name || string(files[i].Data) != want.data {
			t.Errorf("file %d is %s: %x; want %s: %x", i, files[i].Name, files[i].Data, want.name, want.data)
		}
	}
}

// P21.1: each error of Build's arguments, and which is named first.
func TestBuildErrors(t *testing.T) {
	one, none := story(), api.Schema{}
	two := api.History{Key: keyOf(table(), number(8)), Changes: []api.Change{insert(3, number(8), text("z"))}}
	bad := api.History{Key: two.Key, Changes: []api.Change{remove(1)}}
	badKey := api.History{Key: []byte("q")}
	late := api.History{Key: two.Key, Changes: []api.Change{insert(3, number(8), text("z")), insert(9, number(8), text("z"))}}
	for i, y := range []struct {
		s           api.Schema
		base, floor int64
		per         int
		hs          []api.History
		e           api.Errno
	}{
		{none, -1, 5, 0, []api.History{badKey, badKey}, api.ErrSchema},
		{table(), 6, 0, 0, []api.History{badKey, badKey}, api.ErrArg},
		{table(), 6, 0, 4097, []api.History{two, one}, api.ErrArg},
		{table(), 6, 0, 4097, nil, api.ErrArg},
		{table(), most + 1, 0, 1, []api.History{badKey}, api.ErrArg},
		{table(), 6, 0, -1, []api.History{one}, api.ErrArg},
		{table(), 6, 0, math.MinInt, []api.History{one}, api.ErrArg},
		{table(), 6, 0, 4097, []api.History{one}, api.ErrArg},
		{table(), 6, 0, math.MaxInt, []api.History{one}, api.ErrArg},
		{table(), 6, 0, 4096, []api.History{one}, api.OK},
		{table(), 6, 0, 1, []api.History{one}, api.OK},
		{table(), 6, -1, 1, []api.History{one}, api.ErrArg},
		{table(), 6, math.MinInt64, 1, []api.History{one}, api.ErrArg},
		{table(), -1, -1, 1, []api.History{one}, api.ErrArg},
		{table(), 6, 7, 1, []api.History{one}, api.ErrArg},
		{table(), 6, 6, 1, []api.History{one}, api.OK},
		{table(), most, 0, 1, []api.History{one}, api.OK},
		{table(), most, most, 1, []api.History{two}, api.OK},
		{table(), most + 1, 0, 1, []api.History{one}, api.ErrArg},
		{table(), math.MaxInt64, 0, 1, []api.History{one}, api.ErrArg},
		{table(), math.MaxInt64, math.MaxInt64, 1, []api.History{one}, api.ErrArg},
		{table(), 6, 0, 1, []api.History{two, one}, api.ErrOrder},
		{table(), 6, 0, 1, []api.History{one, one}, api.ErrOrder},
		{table(), 6, 0, 1, []api.History{one, badKey, two}, api.ErrOrder},
		{table(), 6, 0, 1, []api.History{badKey, one}, api.ErrKey},
		{table(), 6, 0, 1, []api.History{one, bad}, api.ErrMissing},
		// History by history: what is wrong with one is told ahead of what is wrong with the next one.
		{table(), 6, 0, 1, []api.History{bad, one}, api.ErrMissing},
		{table(), 6, 0, 1, []api.History{bad, bad}, api.ErrMissing},
		{table(), 6, 0, 1, []api.History{two, bad}, api.ErrOrder},
		{table(), 6, 0, 1, []api.History{{Key: one.Key, Changes: []api.Change{remove(-1)}}, {}}, api.ErrArg},
		// Changes above the base are looked at as far as the chain's errors go.
		{table(), 6, 0, 1, []api.History{one, late}, api.ErrPresent},
		{table(), 6, 0, 1, nil, api.ErrMissing},
		{table(), 6, 0, 1, []api.History{{Key: one.Key}, {Key: two.Key}}, api.ErrMissing},
		{table(), 2, 0, 1, []api.History{one, two}, api.ErrMissing},
		{table(), 3, 3, 1, []api.History{one, two}, api.OK},
		{table(), 8, 8, 1, []api.History{one}, api.ErrMissing},
		{table(), 8, 7, 1, []api.History{one}, api.OK},
		{table(), 9, 8, 1, []api.History{one, two}, api.OK},
	} {
		_, files, e := wantBuild(t, y.s, y.base, y.floor, y.per, y.hs...)
		if e != y.e {
			t.Errorf("%d: Build = %d; want %d", i, e, y.e)
		}
		if e == api.OK {
			opened(t, y.s, files)
		}
	}
}

// P21.1, P21.2: rowsets of all sorts, with redos of all sorts.
func TestAny(t *testing.T) {
	rnd := rand.New(rand.NewPCG(21, 1))
	told := map[api.Errno]int{}
	for range 1500 {
		s := schemaOf(rnd)
		hs := historiesOf(rnd, s, 1+rnd.IntN(7))
		floor := rnd.Int64N(10)
		base := floor + rnd.Int64N(12)
		p, files, e := wantBuild(t, s, base, floor, 1+rnd.IntN(4), hs...)
		told[e]++
		if e != api.OK {
			continue
		}
		x := opened(t, s, files)
		same(t, rnd, x, p, newRedos())
		same(t, rnd, x, p, redosOf(rnd, p))
	}
	if told[api.OK] < 1000 || told[api.ErrMissing] < 10 {
		t.Errorf("told: %v", told)
	}
}

// P21.1: histories of all sorts, one of which is bent.
func TestBuildOfAny(t *testing.T) {
	rnd := rand.New(rand.NewPCG(21, 2))
	told := map[api.Errno]int{}
	for range 5000 {
		s := schemaOf(rnd)
		hs := historiesOf(rnd, s, 1+rnd.IntN(5))
		for range 1 + rnd.IntN(2) {
			i := rnd.IntN(len(hs))
			switch rnd.IntN(7) {
			case 0:
				hs[i], hs[0] = hs[0], hs[i]
			case 1:
				hs[i].Key = append(bytes.Clone(hs[i].Key), 0)
			case 2:
				hs[i].Changes = hs[i].Changes[min(1, len(hs[i].Changes)):]
			case 3:
				hs = append(hs, hs[i])
			case 4:
				hs[i].Changes = append(slices.Clone(hs[i].Changes), insert(30), insert(rnd.Int64N(40), rowOf(rnd, s.Cols)...))
			case 5:
				cells, _ := keys.Decode(s, hs[i].Key)
				hs[i].Changes = append(slices.Clone(hs[i].Changes), insert(30+rnd.Int64N(9), append(cells, rowOf(rnd, s.Cols[len(cells):])...)...))
			case 6:
				hs[i].Changes = append(slices.Clone(hs[i].Changes), api.Change{Time: 50, Kind: rnd.IntN(5), Row: rowOf(rnd, s.Cols)[:rnd.IntN(len(s.Cols)+1)]})
			}
		}
		floor := rnd.Int64N(10) - 1
		_, _, e := wantBuild(t, s, floor+rnd.Int64N(40)-1, floor, rnd.IntN(9), hs...)
		told[e]++
	}
	for _, e := range []api.Errno{api.OK, api.ErrArg, api.ErrOrder, api.ErrCols, api.ErrKey, api.ErrPresent, api.ErrMissing} {
		if told[e] < 20 {
			t.Errorf("%d is told %d times", e, told[e])
		}
	}
}

// P21.2: told from memory and from files, a story is the same at every time from the floor on.
func TestStatesAreTheStories(t *testing.T) {
	rnd := rand.New(rand.NewPCG(21, 3))
	for range 300 {
		s := schemaOf(rnd)
		hs := historiesOf(rnd, s, 5)
		floor := rnd.Int64N(10)
		p, files, e := wantBuild(t, s, floor+rnd.Int64N(12), floor, 2, hs...)
		if e != api.OK {
			continue
		}
		x := opened(t, s, files)
		redo := delta.New()
		for i, h := range p.hs {
			for _, c := range between(h.Changes, p.base, most) {
				redo.Add(api.Place{Row: i, Time: c.Time}, c)
			}
		}
		all, e := x.Histories(redo)
		if e != api.OK || len(all) != len(p.hs) {
			t.Fatalf("Histories = %v, %d", all, e)
		}
		for i, h := range p.hs {
			for at := floor; at < 40; at++ {
				want, ok := memstore.State(h.Changes, at)
				row, is, e := x.Row(i, at, redo)
				again, isAgain := memstore.State(all[i].Changes, at)
				if e != api.OK || is != ok || isAgain != ok || !sameRow(row, want) || !sameRow(again, want) {
					t.Fatalf("%v at %d: %v, %t, and %v, %t; want %v, %t", h, at, row, is, again, isAgain, want, ok)
				}
			}
			if e := memstore.Chain(s, h.Key, all[i].Changes...); e != api.OK {
				t.Fatalf("of %v, %v is no chain: %d", h, all[i], e)
			}
		}
	}
}

// P21.3: what is told of a rowset, built again, makes the same files, and with another base or floor the files of what it was built from.
func TestBuiltAgain(t *testing.T) {
	rnd := rand.New(rand.NewPCG(21, 4))
	for range 1000 {
		s := schemaOf(rnd)
		floor := rnd.Int64N(10)
		hs := historiesOf(rnd, s, 1+rnd.IntN(6))
		p, files, e := wantBuild(t, s, floor+rnd.Int64N(12), floor, 1+rnd.IntN(3), hs...)
		if e != api.OK {
			continue
		}
		x := opened(t, s, files)
		redo := newRedos()
		for i, h := range p.hs {
			for _, c := range between(h.Changes, p.base, most) {
				redo.add(i, c)
			}
		}
		for _, d := range []*delta.Delta{delta.New(), redo.d} {
			all, e := x.Histories(d)
			if e != api.OK {
				t.Fatalf("Histories = %d", e)
			}
			again, e := rowset.Build(s, p.base, p.floor, p.per, all...)
			if e != api.OK || !sameFiles(again, files) {
				t.Fatalf("built again: %d", e)
			}
		}
		all, _ := x.Histories(redo.d)
		later := p.base + rnd.Int64N(10)
		above := p.floor + rnd.Int64N(later-p.floor+1)
		again, e := rowset.Build(s, later, above, p.per, all...)
		want, wantErr := rowset.Build(s, later, above, p.per, p.hs...)
		if e != wantErr || !sameFiles(again, want) {
			t.Fatalf("built again at %d from %d on: %d; want %d", later, above, e, wantErr)
		}
	}
}

func wantCorrupt(t *testing.T, what string, s api.Schema, files []api.File) {
	t.Helper()
	if x, e := rowset.Open(s, files...); e != api.ErrCorrupt || x != nil {
		t.Errorf("%s: Open = %v, %d", what, x, e)
	}
}

// with is files of which one has other bytes.
func with(t *testing.T, files []api.File, name string, data []byte) []api.File {
	t.Helper()
	all := slices.Clone(files)
	i := slices.IndexFunc(all, func(f api.File) bool { return f.Name == name })
	if i < 0 {
		t.Fatalf("there is no file %s", name)
	}
	all[i].Data = data
	return all
}

// three is a rowset of three rows, of which the second isn't there at the base 9; its floor is 4.
func three(t *testing.T) (*plain, []api.File) {
	t.Helper()
	p, files, e := wantBuild(t, wide(), 9, 4, 2,
		api.History{Key: keyOf(wide(), number(1)), Changes: []api.Change{insert(2, number(1), text("a"), number(1), null()), update(6, set(1, text("b")))}},
		api.History{Key: keyOf(wide(), number(2)), Changes: []api.Change{insert(5, number(2), text("c"), null(), text("z")), remove(7)}},
		api.History{Key: keyOf(wide(), number(3)), Changes: []api.Change{insert(9, number(3), text(""), number(-1), text("")), remove(12)}})
	if e != api.OK {
		t.Fatalf("Build = %d", e)
	}
	return p, files
}

// P21.1: the names of the files.
func TestOpenNames(t *testing.T) {
	_, files := three(t)
	opened(t, wide(), files)
	if x, e := rowset.Open(api.Schema{}, files...); e != api.ErrSchema || x != nil {
		t.Errorf("by no schema Open = %v, %d", x, e)
	}
	if x, e := rowset.Open(api.Schema{}); e != api.ErrSchema || x != nil {
		t.Errorf("of nothing by no schema Open = %v, %d", x, e)
	}
	wantCorrupt(t, "no files", wide(), nil)
	for i := range files {
		wantCorrupt(t, "without "+files[i].Name, wide(), slices.Delete(slices.Clone(files), i, i+1))
		wantCorrupt(t, "twice "+files[i].Name, wide(), slices.Insert(slices.Clone(files), i, files[i]))
		wantCorrupt(t, "up to "+files[i].Name, wide(), files[:i])
		wantCorrupt(t, "from behind "+files[i].Name+" on", wide(), files[i+1:])
		for _, name := range []string{"", "x", files[i].Name + "x", files[i].Name[1:], strings.ToUpper(files[i].Name), files[(i+1)%8].Name, "col-00", "col-1", "col-04", "col-10"} {
			if name == files[i].Name {
				continue
			}
			all := slices.Clone(files)
			all[i].Name = name
			wantCorrupt(t, files[i].Name+" as "+name, wide(), all)
		}
		for k := range i {
			all := slices.Clone(files)
			all[i], all[k] = all[k], all[i]
			wantCorrupt(t, files[i].Name+" instead of "+files[k].Name, wide(), all)
			all[i].Name, all[k].Name = all[k].Name, all[i].Name
			wantCorrupt(t, "the bytes of "+files[i].Name+" instead of those of "+files[k].Name, wide(), all)
		}
	}
	wantCorrupt(t, "a file besides", wide(), append(slices.Clone(files), api.File{Name: "zzz"}))
	wantCorrupt(t, "another schema", table(), files)
	more := wide()
	more.Keys = 2
	wantCorrupt(t, "another key", more, files)
	more = wide()
	more.Cols = append(more.Cols, api.Column{Name: "more", Kind: api.KI8})
	wantCorrupt(t, "a column besides", more, files)
}

// P21.1: what the file "base" may say.
func TestOpenBase(t *testing.T) {
	p, files := three(t)
	right := framed(1, numbers(9, 4, 3))
	opened(t, wide(), with(t, files, "base", right))
	for _, y := range []struct {
		what string
		data []byte
	}{
		{"nothing", nil},
		{"another kind", framed(2, numbers(9, 4, 3))},
		{"kind 255", framed(255, numbers(9, 4, 3))},
		{"a byte behind", append(bytes.Clone(right), 0)},
		{"twice", append(bytes.Clone(right), right...)},
		{"a byte ahead", append([]byte{0}, right...)},
		{"a byte less", right[:len(right)-1]},
		{"no body", framed(1, nil)},
		{"two numbers", framed(1, numbers(9, 4))},
		{"four numbers", framed(1, numbers(9, 4, 3, 0))},
		{"a number in another form", framed(1, []byte{9, 4, 0x83, 0})},
		{"a number that doesn't end", framed(1, []byte{9, 4, 0x83})},
		{"a base in another form", framed(1, []byte{0x89, 0, 4, 3})},
		{"a floor above the base", framed(1, numbers(9, 10, 3))},
		{"a floor as great as can be", framed(1, numbers(9, math.MaxUint64, 3))},
		{"a floor that is below 0 with a sign", framed(1, numbers(9, 1<<63, 3))},
		{"a base above all times", framed(1, numbers(1<<40+1, 4, 3))},
		{"a base as great as can be", framed(1, numbers(math.MaxUint64, 4, 3))},
		{"a base and a floor as great as can be", framed(1, numbers(math.MaxUint64, math.MaxUint64, 3))},
		{"no rows", framed(1, numbers(9, 4, 0))},
		{"fewer rows", framed(1, numbers(9, 4, 2))},
		{"more rows", framed(1, numbers(9, 4, 4))},
		{"as many rows as can be", framed(1, numbers(9, 4, 4096))},
		{"too many rows", framed(1, numbers(9, 4, 4097))},
		{"rows in the lowest bits", framed(1, numbers(9, 4, 1<<32+3))},
		{"rows in the lowest 63 bits", framed(1, numbers(9, 4, 1<<63+3))},
		{"a base ahead of a change", framed(1, numbers(8, 4, 3))},
		{"a floor at a change", framed(1, numbers(9, 5, 3))},
		{"a floor behind a change", framed(1, numbers(9, 6, 3))},
	} {
		wantCorrupt(t, y.what, wide(), with(t, files, "base", y.data))
	}
	// Where no change is told, the floor alone is wrong.
	bare := with(t, files, "undo", nil)
	for _, floor := range []uint64{10, 1 << 40} {
		wantCorrupt(t, "a floor above the base, without changes", wide(), with(t, bare, "base", framed(1, numbers(9, floor, 3))))
	}
	opened(t, wide(), with(t, bare, "base", framed(1, numbers(9, 9, 3))))
	for _, y := range []struct{ base, floor uint64 }{{10, 4}, {9, 3}, {9, 0}, {1 << 40, 4}, {1 << 40, 0}} {
		x := opened(t, wide(), with(t, files, "base", framed(1, numbers(y.base, y.floor, 3))))
		if x.Base() != int64(y.base) || x.Floor() != int64(y.floor) || x.Rows() != len(p.hs) {
			t.Errorf("Base %d, Floor %d, Rows %d", x.Base(), x.Floor(), x.Rows())
		}
	}
}

// P21.1: files that tell of no rows, all of them.
func TestOpenOfNoRows(t *testing.T) {
	_, files := three(t)
	empty := map[string][]byte{"base": framed(1, numbers(9, 4, 0)), "bloom": bloom.New(0).Encode(), "undo": nil}
	empty["keys"], _ = cfile.BuildKeys(2)
	for name, kind := range map[string]int{"col-01": api.KStr, "col-02": api.KI8, "col-03": api.KBytes, "live": api.KBool} {
		empty[name], _ = cfile.Build(kind, 2)
	}
	all := slices.Clone(files)
	for i := range all {
		all[i].Data = empty[all[i].Name]
	}
	wantCorrupt(t, "no rows", wide(), all)
}

// P21.1: which filter, columns and deltas may be there.
func TestOpenFiles(t *testing.T) {
	p, files := three(t)
	build := func(kind, n int) []byte {
		cells := make([]api.Cell, n)
		b, e := cfile.Build(kind, 2, cells...)
		if e != api.OK {
			t.Fatalf("cfile.Build = %d", e)
		}
		return b
	}
	kindOf := map[string]int{"col-01": api.KStr, "col-02": api.KI8, "col-03": api.KBytes, "live": api.KBool}
	for name, right := range kindOf {
		for kind := 1; kind <= 8; kind++ {
			for n := range 6 {
				all := with(t, files, name, build(kind, n))
				if kind == right && n == 3 {
					opened(t, wide(), all)
					continue
				}
				wantCorrupt(t, name+" of kind "+strconv.Itoa(kind)+" with "+strconv.Itoa(n)+" cells", wide(), all)
			}
		}
	}
	ks := func(n int) []byte {
		b, _ := cfile.BuildKeys(2, [][]byte{{1}, {2}, {3}, {4}}[:n]...)
		return b
	}
	wantCorrupt(t, "keys instead of a column of bytes", wide(), with(t, files, "col-03", ks(3)))
	for kind := 1; kind <= 8; kind++ {
		wantCorrupt(t, "a column instead of keys", wide(), with(t, files, "keys", build(kind, 3)))
	}
	for n := range 5 {
		if all := with(t, files, "keys", ks(n)); n == 3 {
			opened(t, wide(), all)
		} else {
			wantCorrupt(t, strconv.Itoa(n)+" keys", wide(), all)
		}
	}
	for n := range 40 {
		filter := bloom.New(n)
		if all := with(t, files, "bloom", filter.Encode()); filter.Bits() == 64 {
			opened(t, wide(), all)
		} else {
			wantCorrupt(t, "a filter for "+strconv.Itoa(n)+" keys", wide(), all)
		}
	}
	for row := range 5 {
		for time := range int64(12) {
			d := delta.New()
			d.Add(api.Place{Row: 0, Time: 5}, remove(5))
			d.Add(api.Place{Row: row, Time: time}, remove(time))
			b, _ := d.Encode(wide())
			all := with(t, files, "undo", b)
			if row < len(p.hs) && time > p.floor && time <= p.base {
				opened(t, wide(), all)
			} else {
				wantCorrupt(t, "an undo of row "+strconv.Itoa(row)+" at "+strconv.Itoa(int(time)), wide(), all)
			}
		}
	}
	for _, f := range files {
		if f.Name != "undo" {
			wantCorrupt(t, "nothing as "+f.Name, wide(), with(t, files, f.Name, nil))
		}
		wantCorrupt(t, "a byte behind "+f.Name, wide(), with(t, files, f.Name, append(bytes.Clone(f.Data), 0)))
		wantCorrupt(t, "a byte of "+f.Name+" less", wide(), with(t, files, f.Name, f.Data[:len(f.Data)-1]))
		wantCorrupt(t, "a byte as "+f.Name, wide(), with(t, files, f.Name, []byte{0}))
	}
	// A delta without changes has no bytes.
	opened(t, wide(), with(t, files, "undo", nil))
}

// damaged is a column file with a bit of its i-th block turned.
func damaged(t *testing.T, rnd *rand.Rand, data []byte, per, i int) []byte {
	t.Helper()
	f, e := cfile.Open(data)
	if e != api.OK {
		t.Fatalf("cfile.Open = %d", e)
	}
	at := 0
	for k := 0; ; k++ {
		cells, e := f.Read(k*per, min(per, f.Rows()-k*per))
		if e != api.OK {
			t.Fatalf("Read = %d", e)
		}
		_, b, _ := block.Best(f.Kind(), cells...)
		if k == i {
			data = bytes.Clone(data)
			data[at+rnd.IntN(len(b))] ^= 1 << rnd.IntN(8)
			return data
		}
		at += len(b)
	}
}

// P21.1, P21.4: which calls tell of a block that isn't right, and which don't read it.
func TestDamagedBlocks(t *testing.T) {
	rnd := rand.New(rand.NewPCG(21, 5))
	told := 0
	for range 400 {
		s := schemaOf(rnd)
		floor := rnd.Int64N(6)
		p, files, e := wantBuild(t, s, floor+rnd.Int64N(12), floor, 1+rnd.IntN(3), historiesOf(rnd, s, 4+rnd.IntN(6))...)
		if e != api.OK {
			continue
		}
		p.bad = map[string][]int{}
		for range 1 + rnd.IntN(2) {
			names := append(p.columns(), "keys", "keys", "live")
			name := names[rnd.IntN(len(names))]
			which := rnd.IntN((len(p.hs) + p.per - 1) / p.per)
			if len(p.bad[name]) > 0 {
				continue
			}
			p.bad[name] = append(p.bad[name], which)
			i := slices.IndexFunc(files, func(f api.File) bool { return f.Name == name })
			files = with(t, files, name, damaged(t, rnd, files[i].Data, p.per, which))
			told++
		}
		// No block is read as long as nobody asks.
		same(t, rnd, opened(t, s, files), p, redosOf(rnd, p))
	}
	if told < 200 {
		t.Errorf("%d blocks were damaged", told)
	}
}

// P21.1: where the filter says that there is no such key, no block is read.
func TestFindAsksTheFilter(t *testing.T) {
	p, files := three(t)
	x := opened(t, wide(), with(t, files, "bloom", bloom.New(3).Encode()))
	for _, key := range p.asked() {
		if i, ok, e := x.Find([]byte(key)); i != 0 || ok || e != api.OK {
			t.Errorf("Find(%q) = %d, %t, %d", key, i, ok, e)
		}
	}
	full := bloom.New(3)
	for i := range 1000 {
		full.Add([]byte(strconv.Itoa(i)))
	}
	x = opened(t, wide(), with(t, files, "bloom", full.Encode()))
	for _, key := range p.asked() {
		want := slices.IndexFunc(p.hs, func(h api.History) bool { return string(h.Key) == key })
		if i, ok, e := x.Find([]byte(key)); i != max(want, 0) || ok != (want >= 0) || e != api.OK {
			t.Errorf("Find(%q) = %d, %t, %d; want %d", key, i, ok, e, want)
		}
	}
}

// P1, P21.4: blocks that are under their sums, but hold what no Build writes, tell no row that the schema refuses; nothing panics.
func TestOddBlocks(t *testing.T) {
	p, files := three(t)
	none := newRedos()
	file := func(kind, per int, cells ...api.Cell) []byte {
		b, e := cfile.Build(kind, per, cells...)
		if e != api.OK {
			t.Fatalf("cfile.Build = %d", e)
		}
		return b
	}
	rnd := rand.New(rand.NewPCG(21, 6))
	for _, y := range []struct {
		name string
		data []byte
		bad  int
	}{
		{"live", file(api.KBool, 2, null(), number(0), number(1)), 0},
		{"live", file(api.KBool, 2, number(1), number(0), null()), 2},
		{"col-01", file(api.KStr, 2, null(), text(""), text("")), 0},
		{"col-01", file(api.KStr, 2, text("b"), text(""), null()), 2},
	} {
		x := opened(t, wide(), with(t, files, y.name, y.data))
		if row, ok, e := x.Row(y.bad, 9, none.d); row != nil || ok || e != api.ErrCorrupt {
			t.Errorf("%s: Row = %v, %t, %d", y.name, row, ok, e)
		}
		wantRow(t, x, p, 2-y.bad, 9, none)
		if ks, rows, e := x.Scan(nil, nil, 9, none.d); ks != nil || rows != nil || e != api.ErrCorrupt {
			t.Errorf("%s: Scan = %q, %v, %d", y.name, ks, rows, e)
		}
		if hs, e := x.Histories(none.d); hs != nil || e != api.ErrCorrupt {
			t.Errorf("%s: Histories = %v, %d", y.name, hs, e)
		}
	}
	// Keys that are none of the schema.
	ks, _ := cfile.BuildKeys(2, []byte("a"), p.hs[1].Key, p.hs[2].Key)
	x := opened(t, wide(), with(t, files, "keys", ks))
	if row, ok, e := x.Row(0, 9, none.d); row != nil || ok || e != api.ErrCorrupt {
		t.Errorf("Row = %v, %t, %d", row, ok, e)
	}
	wantRow(t, x, p, 2, 9, none)
	wantNullKey(t, files)
	// A row that isn't there at the base, and of which no change is told, has no history.
	x = opened(t, wide(), with(t, files, "undo", nil))
	hs, e := x.Histories(none.d)
	if e != api.OK || len(hs) != 2 || !bytes.Equal(hs[0].Key, p.hs[0].Key) || !bytes.Equal(hs[1].Key, p.hs[2].Key) {
		t.Errorf("Histories = %v, %d", hs, e)
	}
	// Undos that no chain has.
	for range 2000 {
		d := delta.New()
		for range 1 + rnd.IntN(5) {
			c := api.Change{Time: 5 + rnd.Int64N(5), Kind: 1 + rnd.IntN(3)}
			switch c.Kind {
			case api.OInsert:
				c.Row = rowOf(rnd, wide().Cols)
			case api.OUpdate:
				c.Sets = []api.Set{set(1, text("u"))}
			}
			d.Add(api.Place{Row: rnd.IntN(3), Time: c.Time}, c)
		}
		b, e := d.Encode(wide())
		if e != api.OK {
			t.Fatalf("Encode = %d", e)
		}
		x := opened(t, wide(), with(t, files, "undo", b))
		if _, e := x.Histories(none.d); e != api.OK {
			t.Fatalf("Histories = %d", e)
		}
		for at := int64(4); at < 11; at++ {
			for i := range 3 {
				base, live, _ := x.Row(i, 9, none.d)
				want, ok := d.Undo(i, base, live, at)
				if row, is, e := x.Row(i, at, none.d); e != api.OK || is != ok || is && !sameRow(row, want) || !is && row != nil {
					t.Fatalf("Row(%d, %d) = %v, %t, %d; want %v, %t", i, at, row, is, e, want, ok)
				}
			}
		}
	}
}

// wantNullKey: a null among the keys is none of them.
func wantNullKey(t *testing.T, files []api.File) {
	t.Helper()
	ahead, _ := block.Encode(api.KBytes, api.CPlain, null(), text("b"))
	behind, _ := block.Encode(api.KBytes, api.CPlain, text("c"))
	footer := slices.Concat([]byte{api.KBytes, 1}, numbers(3, 2, 2, uint64(len(ahead)), 0, uint64(len(behind)), 1), []byte("c"))
	place := four(uint32(len(ahead) + len(behind)))
	sum := four(crc32.Checksum(place, crc32.MakeTable(crc32.Castagnoli)))
	x := opened(t, wide(), with(t, files, "keys", slices.Concat(ahead, behind, framed(1, footer), place, sum)))
	if first, last, e := x.Bounds(); first != nil || last != nil || e != api.ErrCorrupt {
		t.Errorf("Bounds = %q, %q, %d", first, last, e)
	}
	if ks, rows, e := x.Scan([]byte("c"), nil, 9, delta.New()); ks != nil || rows != nil || e != api.ErrCorrupt {
		t.Errorf("Scan = %q, %v, %d", ks, rows, e)
	}
}

// turned is bytes with some of the 32 bits from one on turned.
func turned(b []byte, from int, mask uint32) []byte {
	b = bytes.Clone(b)
	for i := range 32 {
		if at := from + i; mask>>i&1 == 1 && at < 8*len(b) {
			b[at/8] ^= 1 << (at % 8)
		}
	}
	return b
}

// wantTurned: of a rowset with bits turned every answer is what it would have been, or ErrCorrupt.
func wantTurned(t *testing.T, p *plain, files []api.File, redo redos) {
	t.Helper()
	x, e := rowset.Open(p.s, files...)
	if e != api.OK {
		if e != api.ErrCorrupt || x != nil {
			t.Fatalf("Open = %v, %d", x, e)
		}
		return
	}
	if x.Rows() != len(p.hs) || x.Base() != p.base || x.Floor() != p.floor {
		t.Fatalf("Rows %d, Base %d, Floor %d", x.Rows(), x.Base(), x.Floor())
	}
	right := func(what string, e api.Errno, same, zero bool) {
		t.Helper()
		if e == api.ErrCorrupt && zero || e == api.OK && same {
			return
		}
		t.Fatalf("%s tells something else: %d", what, e)
	}
	first, last, e := x.Bounds()
	a, b, _ := p.bounds()
	right("Bounds", e, bytes.Equal(first, a) && bytes.Equal(last, b), first == nil && last == nil)
	hs, e := x.Histories(redo.d)
	want, _ := p.histories(redo)
	right("Histories", e, sameHistories(hs, want), hs == nil)
	for i, h := range p.hs {
		n, ok, e := x.Find(h.Key)
		right("Find", e, n == i && ok, n == 0 && !ok)
		for _, at := range []int64{p.floor, 6, p.base, 12} {
			row, ok, e := x.Row(i, at, redo.d)
			want, live, _ := p.row(i, at, redo)
			right("Row", e, ok == live && sameRow(row, want), row == nil && !ok)
		}
	}
	if n, ok, e := x.Find([]byte("b")); n != 0 || ok || e != api.OK && e != api.ErrCorrupt {
		t.Fatalf("Find = %d, %t, %d", n, ok, e)
	}
	for _, at := range []int64{p.floor, p.base, 12} {
		ks, rows, e := x.Scan(nil, nil, at, redo.d)
		want, told, _ := p.scan("", "", at, redo)
		right("Scan", e, sameKeys(ks, want) && sameRows(rows, told), ks == nil && rows == nil)
	}
}

// P21.4: any run of at most 32 bits of any file.
func TestTurnedBits(t *testing.T) {
	rnd := rand.New(rand.NewPCG(21, 7))
	p, files := three(t)
	redo := newRedos()
	redo.add(2, remove(12))
	for _, f := range files {
		for from := range 8 * len(f.Data) {
			masks := []uint32{rnd.Uint32() | 1, rnd.Uint32()&rnd.Uint32() | 1, rnd.Uint32() | rnd.Uint32() | 1}
			for n := range 32 {
				masks = append(masks, 1<<n|1, math.MaxUint32>>n)
			}
			for _, mask := range masks {
				b := turned(f.Data, from, mask)
				if !bytes.Equal(b, f.Data) {
					wantTurned(t, p, with(t, files, f.Name, b), redo)
				}
			}
		}
	}
}

// area is the memory of a list, its spare room too. By the pointer it stays in use.
type area struct {
	from unsafe.Pointer
	size uintptr
}

func (a area) begin() uintptr { return uintptr(a.from) }

func areaOf[T any](list []T) area {
	if cap(list) == 0 {
		return area{}
	}
	return area{unsafe.Pointer(unsafe.SliceData(list)), uintptr(cap(list)) * unsafe.Sizeof(list[:1][0])}
}

func areasOfRow(row []api.Cell) []area {
	all := []area{areaOf(row)}
	for _, c := range row {
		all = append(all, areaOf(c.B))
	}
	return all
}

func areasOfHistories(hs []api.History) []area {
	all := []area{areaOf(hs)}
	for _, h := range hs {
		all = append(all, areaOf(h.Key), areaOf(h.Changes))
		for _, c := range h.Changes {
			all = append(append(all, areasOfRow(c.Row)...), areaOf(c.Sets))
			for _, x := range c.Sets {
				all = append(all, areaOf(x.Cell.B))
			}
		}
	}
	return all
}

func areasOfFiles(files []api.File) []area {
	all := []area{areaOf(files)}
	for _, f := range files {
		all = append(all, areaOf(f.Data))
	}
	return all
}

func wantApart(t *testing.T, all []area) {
	t.Helper()
	all = slices.DeleteFunc(all, func(a area) bool { return a == area{} })
	slices.SortFunc(all, func(a, b area) int { return cmp.Compare(a.begin(), b.begin()) })
	for i := range all {
		if i > 0 && all[i].begin() < all[i-1].begin()+all[i-1].size {
			t.Fatal("two lists share memory")
		}
	}
}

// The copies beneath have spare room behind every list, so that what writes or keeps there is told.

func roomy[T any](list []T) []T {
	return append(make([]T, 0, len(list)+3), list...)
}

func copyRow(row []api.Cell) []api.Cell {
	row = roomy(row)
	for i := range row {
		row[i].B = roomy(row[i].B)
	}
	return row
}

func copyHistories(hs []api.History) []api.History {
	hs = roomy(hs)
	for i := range hs {
		hs[i].Key, hs[i].Changes = roomy(hs[i].Key), roomy(hs[i].Changes)
		for k := range hs[i].Changes {
			c := &hs[i].Changes[k]
			c.Row, c.Sets = copyRow(c.Row), roomy(c.Sets)
			for n := range c.Sets {
				c.Sets[n].Cell.B = roomy(c.Sets[n].Cell.B)
			}
		}
	}
	return hs
}

func copyFiles(files []api.File) []api.File {
	files = roomy(files)
	for i := range files {
		files[i].Data = roomy(files[i].Data)
	}
	return files
}

func spoil[T any](list []T, v T) {
	list = list[:cap(list)]
	for i := range list {
		list[i] = v
	}
}

func spoilRow(row []api.Cell) {
	for _, c := range row[:cap(row)] {
		spoil(c.B, '~')
	}
	spoil(row, api.Cell{Null: true, Int: -77, B: []byte("~")})
}

func spoilHistories(hs []api.History) {
	for _, h := range hs[:cap(hs)] {
		spoil(h.Key, '~')
		for _, c := range h.Changes[:cap(h.Changes)] {
			spoilRow(c.Row)
			for _, x := range c.Sets {
				spoil(x.Cell.B, '~')
			}
			spoil(c.Sets, api.Set{Col: -77})
		}
		spoil(h.Changes, api.Change{Time: -77, Kind: -77})
	}
	spoil(hs, api.History{Key: []byte("~")})
}

func spoilFiles(files []api.File) {
	for _, f := range files[:cap(files)] {
		spoil(f.Data, '~')
	}
	spoil(files, api.File{Name: "~"})
}

func copySchema(s api.Schema) api.Schema {
	s.Cols = roomy(s.Cols)
	return s
}

// spoilAnswers writes over all that a rowset tells, and over what it is asked with.
func spoilAnswers(x *rowset.Set, redo *delta.Delta) {
	low, high := []byte("\x00"), []byte("\xff\xff")
	for at := x.Floor(); at < x.Base()+4; at++ {
		for i := range x.Rows() {
			row, _, _ := x.Row(i, at, redo)
			spoilRow(row)
		}
		ks, rows, _ := x.Scan(low, high, at, redo)
		for i := range ks {
			spoil(ks[i], '~')
			spoilRow(rows[i])
		}
		spoil(ks, []byte("~"))
		spoil(rows, nil)
	}
	hs, _ := x.Histories(redo)
	for _, h := range hs {
		x.Find(h.Key)
	}
	spoilHistories(hs)
	first, last, _ := x.Bounds()
	spoil(first, '~')
	spoil(last, '~')
	spoil(low, '~')
	spoil(high, '~')
}

// P21.5: what is handed in stays as it is, and may be written over behind the call, and what is told as well.
func TestNothingIsKept(t *testing.T) {
	rnd := rand.New(rand.NewPCG(21, 8))
	for range 300 {
		s := schemaOf(rnd)
		hs := historiesOf(rnd, s, 6)
		floor := rnd.Int64N(6)
		given, cols := copyHistories(hs), copySchema(s)
		base := floor + rnd.Int64N(12)
		p, want, e := plainBuild(s, base, floor, 2, hs)
		files, err := rowset.Build(cols, base, floor, 2, given...)
		if err != e || !sameHistories(given, hs) || !slices.Equal(cols.Cols, s.Cols) {
			t.Fatalf("Build = %d, and %v; want %d, and %v", err, given, e, hs)
		}
		if e != api.OK {
			continue
		}
		for i := range 3 {
			if !sameHistory(given[:cap(given)][len(hs)+i], api.History{}) {
				t.Fatal("Build writes behind the histories")
			}
		}
		spoilHistories(given)
		spoil(cols.Cols, api.Column{Name: "~", Kind: -77, Null: true})
		if !sameFiles(files, want) {
			t.Fatal("with the histories the files change")
		}
		laid, cols := copyFiles(files), copySchema(s)
		x, e := rowset.Open(cols, laid...)
		if e != api.OK || !sameFiles(laid, files) || !slices.Equal(cols.Cols, s.Cols) {
			t.Fatalf("Open = %d, and changes the files", e)
		}
		spoilFiles(laid)
		spoil(cols.Cols, api.Column{Name: "~", Kind: -77, Null: true})
		redo := redosOf(rnd, p)
		spoilAnswers(x, redo.d)
		same(t, rnd, x, p, redo)
	}
}

// P21.5: no two lists of all that is handed in and told share memory.
func TestAnswersAreNew(t *testing.T) {
	rnd := rand.New(rand.NewPCG(21, 9))
	for range 100 {
		s := schemaOf(rnd)
		hs := copyHistories(historiesOf(rnd, s, 6))
		floor := rnd.Int64N(6)
		base := floor + rnd.Int64N(12)
		files, e := rowset.Build(s, base, floor, 2, hs...)
		if e != api.OK {
			continue
		}
		again, _ := rowset.Build(s, base, floor, 2, hs...)
		all := slices.Concat(areasOfHistories(hs), areasOfFiles(files), areasOfFiles(again))
		x := opened(t, s, files)
		p, _, _ := plainBuild(s, base, floor, 2, hs)
		redo := redosOf(rnd, p)
		for range 2 {
			told, _ := x.Histories(redo.d)
			first, last, _ := x.Bounds()
			all = append(append(all, areasOfHistories(told)...), areaOf(first), areaOf(last))
			for at := floor; at < base+4; at++ {
				for i := range x.Rows() {
					row, _, _ := x.Row(i, at, redo.d)
					all = append(all, areasOfRow(row)...)
				}
				ks, rows, _ := x.Scan(nil, nil, at, redo.d)
				all = append(all, areaOf(ks), areaOf(rows))
				for i := range ks {
					all = append(append(all, areaOf(ks[i])), areasOfRow(rows[i])...)
				}
			}
		}
		wantApart(t, all)
	}
}

func manyHistories(s api.Schema, n int, name func(int) string) []api.History {
	var hs []api.History
	for i := range n {
		row := []api.Cell{number(int64(i)), text(name(i))}
		hs = append(hs, api.History{Key: keyOf(s, row[0]), Changes: []api.Change{insert(1, row...)}})
	}
	return hs
}

// P21.1: as many rows as there may be, and more; files that would be too long.
func TestLimits(t *testing.T) {
	short := func(i int) string { return strconv.Itoa(i) }
	long := func(i int) string { return strings.Repeat("x", 150) + strconv.Itoa(i*7919%4096) }
	hs := manyHistories(table(), 4097, short)
	for i, y := range []struct {
		per int
		hs  []api.History
		e   api.Errno
	}{
		{4096, hs[:4096], api.OK},
		{1, hs[:4096], api.OK},
		{100, hs, api.ErrLong},
		{4096, manyHistories(table(), 4096, func(i int) string { return strings.Repeat(strconv.Itoa(1000000+i*7919), 15)[:100] }), api.ErrLong},
		{100, manyHistories(table(), 4096, long), api.OK},
	} {
		_, files, e := wantBuild(t, table(), 5, 0, y.per, y.hs...)
		if e != y.e {
			t.Errorf("%d: Build = %d; want %d", i, e, y.e)
		}
		if e == api.OK {
			x := opened(t, table(), files)
			ks, rows, e := x.Scan(nil, nil, 5, delta.New())
			if e != api.OK || len(ks) != 4096 || string(rows[4095][1].B) != string(y.hs[4095].Changes[0].Row[1].B) {
				t.Errorf("%d: Scan = %d rows, %d", i, len(ks), e)
			}
		}
	}
	// One that is left out doesn't count.
	hs[5].Changes = append(hs[5].Changes, remove(2))
	if _, _, e := wantBuild(t, table(), 5, 2, 100, hs...); e != api.OK {
		t.Errorf("Build of 4096 and one that is left out = %d", e)
	}
	if _, _, e := wantBuild(t, table(), 5, 1, 100, hs...); e != api.ErrLong {
		t.Errorf("Build of 4097 = %d", e)
	}
	wantLongKeys(t)
}

// wantLongKeys: keys as long as can be, and so many of them that their footer would be too long; as many columns as can be.
func wantLongKeys(t *testing.T) {
	t.Helper()
	s := api.Schema{Keys: 1}
	for i := range 12 {
		s.Cols = append(s.Cols, api.Column{Name: "c" + strconv.Itoa(i), Kind: api.KStr, Null: i > 6})
	}
	var hs []api.History
	for i := range 400 {
		row := make([]api.Cell, 12)
		for k := range row {
			row[k] = text(strconv.Itoa(1000*k + i))
		}
		row[0] = text(strings.Repeat("k", 195) + strconv.Itoa(1000+i))
		hs = append(hs, api.History{Key: keyOf(s, row[0]), Changes: []api.Change{insert(int64(i), row...)}})
	}
	p, files, e := wantBuild(t, s, 350, 40, 20, hs...)
	if e != api.OK || len(files) != 16 || files[12].Name != "col-11" || files[2].Name != "col-01" || files[11].Name != "col-10" {
		t.Fatalf("Build = %d files, %d", len(files), e)
	}
	x := opened(t, s, files)
	for i := range 351 {
		wantRow(t, x, p, i, 300, newRedos())
		wantFind(t, x, p, string(p.hs[i].Key))
	}
	if _, _, e := wantBuild(t, s, 400, 40, 1, hs...); e != api.ErrLong {
		t.Errorf("Build of a footer that is too long = %d", e)
	}
}

// P21.1: times as late as can be.
func TestLate(t *testing.T) {
	h := api.History{Key: keyOf(table(), number(7)), Changes: []api.Change{insert(0, number(7), text("a")), update(most-1, set(1, text("b"))), remove(most)}}
	rnd := rand.New(rand.NewPCG(21, 10))
	for _, y := range []struct{ base, floor int64 }{{0, 0}, {most - 1, 0}, {most - 1, most - 2}, {most - 1, most - 1}, {most, 0}, {most, most - 1}} {
		p, files, e := wantBuild(t, table(), y.base, y.floor, 1, h)
		if e != api.OK {
			t.Fatalf("Build = %d", e)
		}
		same(t, rnd, opened(t, table(), files), p, redosOf(rnd, p))
	}
	if _, _, e := wantBuild(t, table(), most, most, 1, h); e != api.ErrMissing {
		t.Errorf("Build = %d", e)
	}
}

// P2: two rowsets have nothing to do with one another, and asked again they tell the same.
func TestTwo(t *testing.T) {
	rnd := rand.New(rand.NewPCG(21, 11))
	p, files := three(t)
	q, others, _ := wantBuild(t, table(), 6, 0, 2, story())
	x, y, z := opened(t, wide(), files), opened(t, table(), others), opened(t, wide(), files)
	for range 3 {
		same(t, rnd, x, p, redosOf(rnd, p))
		same(t, rnd, y, q, redosOf(rnd, q))
		same(t, rnd, z, p, newRedos())
	}
}

// TestMany has as many rows as there may be, with many changes: nothing takes long.
func TestMany(t *testing.T) {
	begin := time.Now()
	hs := manyHistories(table(), 4096, strconv.Itoa)
	for i := range hs {
		for k := range int64(10) {
			hs[i].Changes = append(hs[i].Changes, update(2+k, set(1, text(strconv.Itoa(int(k))))))
		}
	}
	for k := range int64(50000) {
		hs[9].Changes = append(hs[9].Changes, update(20+k, set(1, text("n"))))
	}
	files, e := rowset.Build(table(), 1<<30, 3, 64, hs...)
	if e != api.OK {
		t.Fatalf("Build = %d", e)
	}
	x := opened(t, table(), files)
	redo := delta.New()
	for i := range 4096 {
		redo.Add(api.Place{Row: i, Time: 1<<30 + 1}, update(1<<30+1, set(1, text("r"))))
	}
	for i, h := range hs {
		if n, ok, e := x.Find(h.Key); n != i || !ok || e != api.OK {
			t.Fatalf("Find = %d, %t, %d", n, ok, e)
		}
		if row, ok, e := x.Row(i, 5, redo); !ok || e != api.OK || string(row[1].B) != "3" {
			t.Fatalf("Row = %v, %t, %d", row, ok, e)
		}
	}
	for range 10 {
		ks, rows, e := x.Scan(nil, nil, 1<<30+1, redo)
		if len(ks) != 4096 || e != api.OK || string(rows[77][1].B) != "r" {
			t.Fatalf("Scan = %d rows, %d", len(ks), e)
		}
	}
	all, e := x.Histories(redo)
	if e != api.OK || len(all) != 4096 || len(all[9].Changes) != 50010 {
		t.Fatalf("Histories = %d", e)
	}
	if again, e := rowset.Build(table(), 1<<30, 3, 64, all...); e != api.OK || !sameFiles(again, files) {
		t.Errorf("built again: %d", e)
	}
	if spent := time.Since(begin); spent > time.Minute {
		t.Errorf("it took %v", spent)
	}
}
