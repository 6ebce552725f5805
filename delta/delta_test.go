package delta_test

import (
	"bytes"
	"cmp"
	"hash/crc32"
	"math"
	"math/rand/v2"
	"slices"
	"strconv"
	"testing"
	"time"
	"unsafe"

	"stoa/api"
	"stoa/cell"
	"stoa/delta"
	"stoa/frame"
	"stoa/memstore"
	"stoa/schema"
	"stoa/vint"
)

const most = int64(1) << 40 // MaxTime

// far are times of all sizes, and huge are rows.
var (
	far  = []int64{math.MinInt64, -most, -2, -1, 0, 1, most - 1, most, most + 1, math.MaxInt64}
	huge = []int{math.MinInt, -4096, -1, 0, 1, 4095, 4096, 4097, 1 << 32, math.MaxInt}
)

func number(v int64) api.Cell { return api.Cell{Int: v} }

func text(s string) api.Cell { return api.Cell{B: []byte(s)} }

func null() api.Cell { return api.Cell{Null: true} }

// table is the schema of the chapter's examples, and a column besides.
func table() api.Schema {
	return api.Schema{Cols: []api.Column{{Name: "id", Kind: api.KI32}, {Name: "name", Kind: api.KStr}, {Name: "note", Kind: api.KI8, Null: true}}, Keys: 1}
}

func row(id int64, name string) []api.Cell {
	return []api.Cell{number(id), text(name), null()}
}

func to(name string) []api.Set {
	return []api.Set{{Col: 1, Cell: text(name)}}
}

func insert(time int64, row []api.Cell) api.Change {
	return api.Change{Time: time, Kind: api.OInsert, Row: row}
}

func update(time int64, sets []api.Set) api.Change {
	return api.Change{Time: time, Kind: api.OUpdate, Sets: sets}
}

func remove(time int64) api.Change {
	return api.Change{Time: time, Kind: api.ODelete}
}

func place(row int, time int64) api.Place {
	return api.Place{Row: row, Time: time}
}

func sameCell(a, b api.Cell) bool {
	return a.Null == b.Null && a.Int == b.Int && bytes.Equal(a.B, b.B)
}

func sameRow(a, b []api.Cell) bool {
	return slices.EqualFunc(a, b, sameCell)
}

func sameSets(a, b []api.Set) bool {
	return slices.EqualFunc(a, b, func(x, y api.Set) bool { return x.Col == y.Col && sameCell(x.Cell, y.Cell) })
}

func sameChange(a, b api.Change) bool {
	return a.Time == b.Time && a.Kind == b.Kind && sameRow(a.Row, b.Row) && sameSets(a.Sets, b.Sets)
}

func sameChanges(a, b []api.Change) bool {
	return slices.EqualFunc(a, b, sameChange)
}

// copyRow has spare room behind every list, so that what writes or keeps there is told.
func copyRow(row []api.Cell) []api.Cell {
	all := make([]api.Cell, 0, len(row)+2)
	for _, c := range row {
		c.B = append(make([]byte, 0, len(c.B)+3), c.B...)
		all = append(all, c)
	}
	return all
}

func copyChange(c api.Change) api.Change {
	sets := make([]api.Set, 0, len(c.Sets)+2)
	for _, set := range c.Sets {
		sets = append(sets, api.Set{Col: set.Col, Cell: copyRow([]api.Cell{set.Cell})[0]})
	}
	return api.Change{Time: c.Time, Kind: c.Kind, Row: copyRow(c.Row), Sets: sets}
}

func copyChanges(changes []api.Change) []api.Change {
	all := make([]api.Change, 0, len(changes)+2)
	for _, c := range changes {
		all = append(all, copyChange(c))
	}
	return all
}

// entry is a change at a place.
type entry struct {
	p api.Place
	c api.Change
}

// plain is a delta as a list that is gone through and sorted whenever it is asked.
type plain struct {
	all []entry
}

func (x *plain) holds(p api.Place) bool {
	return slices.ContainsFunc(x.all, func(e entry) bool { return e.p == p })
}

func (x *plain) add(p api.Place, c api.Change) api.Errno {
	switch {
	case p.Row < 0, p.Row > 4095, p.Time < 0, p.Time > most:
		return api.ErrArg
	case c.Time != p.Time, c.Kind != 1 && c.Kind != 2 && c.Kind != 3:
		return api.ErrArg
	case x.holds(p):
		return api.ErrOrder
	}
	x.all = append(x.all, entry{p, copyChange(c)})
	slices.SortFunc(x.all, func(a, b entry) int {
		if a.p.Row != b.p.Row {
			return a.p.Row - b.p.Row
		}
		return cmp.Compare(a.p.Time, b.p.Time)
	})
	return api.OK
}

func (x *plain) cut(keep func(entry) bool) *plain {
	cut := &plain{}
	for _, e := range x.all {
		if keep(e) {
			cut.all = append(cut.all, e)
		}
	}
	return cut
}

func (x *plain) of(row int) []api.Change {
	var changes []api.Change
	for _, e := range x.all {
		if e.p.Row == row {
			changes = append(changes, e.c)
		}
	}
	return changes
}

func (x *plain) rows() []int {
	var rows []int
	for _, e := range x.all {
		rows = append(rows, e.p.Row)
	}
	return slices.Compact(rows)
}

func (x *plain) merge(o *plain) api.Errno {
	for _, e := range o.all {
		if x.holds(e.p) {
			return api.ErrOrder
		}
	}
	for _, e := range slices.Clone(o.all) {
		x.add(e.p, e.c)
	}
	return api.OK
}

// plainBehind is the state behind changes in the order in which they are given: the last of them that isn't an update says what there is, and of each column of a row that is there the last set behind it that there is.
func plainBehind(state []api.Cell, live bool, changes []api.Change) ([]api.Cell, bool) {
	from := len(changes) - 1
	for from >= 0 && changes[from].Kind == api.OUpdate {
		from--
	}
	if from >= 0 {
		state, live = nil, changes[from].Kind == api.OInsert
		if live {
			state = changes[from].Row
		}
	}
	if !live {
		return state, false
	}
	state = slices.Clone(state)
	for col := range state {
		for _, c := range changes[from+1:] {
			for _, set := range c.Sets {
				if set.Col == col {
					state[col] = set.Cell
				}
			}
		}
	}
	return state, true
}

func (x *plain) redo(row int, state []api.Cell, live bool, from, to int64) ([]api.Cell, bool) {
	return plainBehind(state, live, slices.DeleteFunc(x.of(row), func(c api.Change) bool { return c.Time <= from || c.Time > to }))
}

func (x *plain) undo(row int, state []api.Cell, live bool, to int64) ([]api.Cell, bool) {
	changes := slices.DeleteFunc(x.of(row), func(c api.Change) bool { return c.Time <= to })
	slices.Reverse(changes)
	return plainBehind(state, live, changes)
}

// plainUndos asks for the state ahead of each change anew.
func plainUndos(changes []api.Change, upto int64) []api.Change {
	var undos []api.Change
	for i, c := range changes {
		ahead, _ := plainBehind(nil, false, changes[:i])
		switch {
		case c.Time > upto:
		case c.Kind == api.OInsert:
			undos = append(undos, remove(c.Time))
		case c.Kind == api.ODelete:
			undos = append(undos, insert(c.Time, ahead))
		default:
			var sets []api.Set
			for _, set := range c.Sets {
				sets = append(sets, api.Set{Col: set.Col, Cell: ahead[set.Col]})
			}
			undos = append(undos, update(c.Time, sets))
		}
	}
	return undos
}

func four(u uint32) []byte {
	return []byte{byte(u), byte(u >> 8), byte(u >> 16), byte(u >> 24)}
}

// framed is a frame with the library's sums.
func framed(kind byte, body []byte) []byte {
	castagnoli := crc32.MakeTable(crc32.Castagnoli)
	head := append([]byte{kind}, four(uint32(len(body)))...)
	return slices.Concat(head, four(crc32.Checksum(head, castagnoli)), body, four(crc32.Checksum(body, castagnoli)))
}

func numbers(us ...uint64) []byte {
	var b []byte
	for _, u := range us {
		b = append(b, vint.Put(u)...)
	}
	return b
}

func (x *plain) encode(s api.Schema) ([]byte, api.Errno) {
	if schema.Check(s) != api.OK {
		return nil, api.ErrSchema
	}
	var all []byte
	for _, e := range x.all {
		var wrong [2]api.Errno
		var brought []byte
		some := func(is bool) api.Errno {
			if is {
				return api.ErrCols
			}
			return api.OK
		}
		switch e.c.Kind {
		case api.OInsert:
			wrong = [2]api.Errno{schema.Row(s, e.c.Row), some(len(e.c.Sets) > 0)}
			brought, _ = schema.PutRow(s, e.c.Row)
		case api.OUpdate:
			wrong = [2]api.Errno{some(len(e.c.Row) > 0), schema.Sets(s, e.c.Sets)}
			brought, _ = schema.PutSets(s, e.c.Sets)
		case api.ODelete:
			wrong[0] = some(len(e.c.Row) > 0 || len(e.c.Sets) > 0)
		}
		for _, err := range wrong {
			if err != api.OK {
				return nil, err
			}
		}
		all = append(all, framed(byte(e.c.Kind), append(numbers(uint64(e.p.Row), uint64(e.p.Time)), brought...))...)
	}
	return all, api.OK
}

// plainDecode reads what may be a delta, and then asks whether it is written so.
func plainDecode(s api.Schema, b []byte) (*plain, api.Errno) {
	if schema.Check(s) != api.OK {
		return nil, api.ErrSchema
	}
	x := &plain{}
	for at := 0; at < len(b); {
		f, next, e := frame.Get(b, at)
		if e != api.OK {
			return nil, api.ErrCorrupt
		}
		row, n, e1 := vint.Get(f.Body, 0)
		time, n, e2 := vint.Get(f.Body, n)
		if e1 != api.OK || e2 != api.OK || row > 1<<20 || time > 1<<50 {
			return nil, api.ErrCorrupt
		}
		c := api.Change{Time: int64(time), Kind: f.Kind}
		if f.Kind == api.OInsert {
			c.Row, _, _ = schema.GetRow(s, f.Body, n)
		}
		if f.Kind == api.OUpdate {
			c.Sets, _, _ = schema.GetSets(s, f.Body, n)
		}
		if x.add(place(int(row), int64(time)), c) != api.OK {
			return nil, api.ErrCorrupt
		}
		at = next
	}
	if again, e := x.encode(s); e != api.OK || !bytes.Equal(again, b) {
		return nil, api.ErrCorrupt
	}
	return x, api.OK
}

// same holds all that a delta tells, of these rows and at these times, against the plain one.
func same(t *testing.T, d *delta.Delta, x *plain, rows []int, times []int64) {
	t.Helper()
	if d.Len() != len(x.all) || !slices.Equal(d.Rows(), x.rows()) {
		t.Fatalf("Len %d, Rows %v; want %v", d.Len(), d.Rows(), x.all)
	}
	state := []api.Cell{number(1), text("s")}
	for _, r := range rows {
		if got, want := d.Of(r), x.of(r); !sameChanges(got, want) {
			t.Fatalf("Of(%d) = %v; want %v", r, got, want)
		}
		for _, to := range times {
			for _, live := range []bool{true, false} {
				want, ok := x.undo(r, state, live, to)
				if got, is := d.Undo(r, state, live, to); is != ok || !sameRow(got, want) || len(want) == 0 && got != nil {
					t.Fatalf("%v: Undo(%d, .., %t, %d) = %v, %t; want %v, %t", x.all, r, live, to, got, is, want, ok)
				}
				for _, from := range times {
					want, ok := x.redo(r, state, live, from, to)
					if got, is := d.Redo(r, state, live, from, to); is != ok || !sameRow(got, want) || len(want) == 0 && got != nil {
						t.Fatalf("%v: Redo(%d, .., %t, %d, %d) = %v, %t; want %v, %t", x.all, r, live, from, to, got, is, want, ok)
					}
				}
			}
		}
	}
	want, wantErr := x.encode(table())
	if got, e := d.Encode(table()); e != wantErr || !bytes.Equal(got, want) {
		t.Fatalf("%v: Encode = %x, %d; want %x, %d", x.all, got, e, want, wantErr)
	}
}

func add(t *testing.T, d *delta.Delta, x *plain, p api.Place, c api.Change) api.Errno {
	t.Helper()
	want := x.add(p, c)
	if e := d.Add(p, c); e != want {
		t.Fatalf("%v: Add(%v, %v) = %d; want %d", x.all, p, c, e, want)
	}
	return want
}

func TestExamples(t *testing.T) {
	d := delta.New()
	if e := d.Add(place(3, 5), update(5, to("y"))); e != api.OK {
		t.Fatalf("Add = %d", e)
	}
	if got, ok := d.Redo(3, row(7, "x")[:2], true, 4, 5); !ok || !sameRow(got, row(7, "y")[:2]) {
		t.Errorf("Redo from 4 to 5 = %v, %t", got, ok)
	}
	if got, ok := d.Redo(3, row(7, "x")[:2], true, 5, 9); !ok || !sameRow(got, row(7, "x")[:2]) {
		t.Errorf("Redo from 5 to 9 = %v, %t", got, ok)
	}
	undos := delta.Undos([]api.Change{insert(2, row(7, "x")), update(5, to("y"))}, 9)
	if !sameChanges(undos, []api.Change{remove(2), update(5, to("x"))}) {
		t.Errorf("Undos = %v", undos)
	}
}

// P20.1: each error of Add, and what isn't one.
func TestAddErrors(t *testing.T) {
	for _, r := range huge {
		for _, time := range far {
			for _, kind := range []int{math.MinInt, -1, 0, 1, 2, 3, 4, 257, 1<<32 + 1, math.MaxInt} {
				for _, other := range []int64{time, time + 1, 3} {
					d, x := delta.New(), &plain{}
					for range 2 {
						add(t, d, x, place(r, time), api.Change{Time: other, Kind: kind, Row: row(1, "r")[:kind&1], Sets: to("s")[:kind&2/2]})
					}
					same(t, d, x, []int{r}, []int64{time})
				}
			}
		}
	}
	d, x := delta.New(), &plain{}
	for i, y := range []struct {
		p api.Place
		c api.Change
		e api.Errno
	}{
		{place(3, 5), update(5, to("y")), api.OK},
		{place(3, 5), update(5, to("z")), api.ErrOrder},
		{place(3, 5), remove(5), api.ErrOrder},
		{place(3, 5), remove(4), api.ErrArg},
		{place(3, 5), api.Change{Time: 5}, api.ErrArg},
		{place(3, 4), remove(4), api.OK},
		{place(4, 5), remove(5), api.OK},
		{place(4096, 5), remove(5), api.ErrArg},
		{place(-1, 5), remove(5), api.ErrArg},
		{place(0, 0), remove(0), api.OK},
		{place(4095, most), remove(most), api.OK},
		// The change's Row and Sets aren't looked at.
		{place(5, 1), insert(1, nil), api.OK},
		{place(5, 2), update(2, nil), api.OK},
		{place(5, 3), api.Change{Time: 3, Kind: api.ODelete, Row: row(1, "\x00"), Sets: []api.Set{{Col: -9, Cell: null()}}}, api.OK},
	} {
		if e := add(t, d, x, y.p, y.c); e != y.e {
			t.Errorf("%d: Add = %d; want %d", i, e, y.e)
		}
		same(t, d, x, []int{-1, 0, 3, 4, 5, 4095, 4096}, []int64{0, 2, 3, 4, 5, most})
	}
}

// changeOf is a change of any sort, often one that no schema or chain has.
func changeOf(rnd *rand.Rand, time int64) api.Change {
	c := api.Change{Time: time, Kind: 1 + rnd.IntN(3)}
	right := rnd.IntN(3) > 0
	if c.Kind == api.OInsert || !right && rnd.IntN(2) == 0 {
		c.Row = row(rnd.Int64N(3), strconv.Itoa(rnd.IntN(3)))
		if !right {
			c.Row = c.Row[:rnd.IntN(4)]
		}
	}
	if c.Kind == api.OUpdate || !right && rnd.IntN(2) == 0 {
		for col := 1; col < 3; col++ {
			if rnd.IntN(2) == 0 {
				c.Sets = append(c.Sets, api.Set{Col: col, Cell: []api.Cell{text("n"), number(4)}[col-1]})
			}
		}
		if !right {
			c.Sets = append(c.Sets, api.Set{Col: []int{math.MinInt, -1, 0, 1, 2, 3, 99, math.MaxInt}[rnd.IntN(8)], Cell: number(9)})
		}
	}
	return c
}

func deltaOf(t *testing.T, rnd *rand.Rand, n int) (*delta.Delta, *plain) {
	t.Helper()
	d, x := delta.New(), &plain{}
	for range n {
		time := rnd.Int64N(8)
		add(t, d, x, place(rnd.IntN(4), time), changeOf(rnd, time))
	}
	return d, x
}

// both is a delta and the plain one that is to be like it.
type both struct {
	d *delta.Delta
	x *plain
}

// steps are calls that change a delta, or answer another one.
func steps(t *testing.T) []func(both) both {
	adds := func(p api.Place, c api.Change) func(both) both {
		return func(b both) both {
			add(t, b.d, b.x, p, c)
			return b
		}
	}
	merges := func(changes ...entry) func(both) both {
		return func(b both) both {
			o, y := delta.New(), &plain{}
			for _, e := range changes {
				add(t, o, y, e.p, e.c)
			}
			want := b.x.merge(y)
			if e := b.d.Merge(o); e != want {
				t.Fatalf("Merge(%v) = %d; want %d", changes, e, want)
			}
			same(t, o, y, []int{1, 2}, []int64{3, 4})
			return b
		}
	}
	cuts := func(at int64, after bool) func(both) both {
		return func(b both) both {
			x := b.x.cut(func(e entry) bool { return e.p.Time > at == after })
			d := b.d.Upto(at)
			if after {
				d = b.d.After(at)
			}
			same(t, b.d, b.x, []int{1}, []int64{3})
			return both{d, x}
		}
	}
	self := func(b both) both {
		want := b.x.merge(b.x)
		if e := b.d.Merge(b.d); e != want {
			t.Fatalf("Merge with itself = %d; want %d", e, want)
		}
		return b
	}
	return []func(both) both{
		adds(place(1, 3), insert(3, row(1, "a"))), adds(place(1, 4), update(4, to("b"))), adds(place(1, 5), remove(5)),
		adds(place(2, 4), insert(4, row(2, "c"))), adds(place(2, 3), update(3, to("d"))), adds(place(1, 3), remove(3)), adds(place(1, 4), remove(3)),
		merges(), merges(entry{place(1, 3), remove(3)}), merges(entry{place(2, 5), remove(5)}, entry{place(1, 4), update(4, to("e"))}),
		cuts(3, false), cuts(4, false), cuts(3, true), cuts(4, true), self,
	}
}

// P20.1: all orders of calls.
func TestAllOrders(t *testing.T) {
	every := steps(t)
	var told []func(both) both
	var try func(left int)
	try = func(left int) {
		if left == 0 {
			b := both{delta.New(), &plain{}}
			for _, step := range told {
				b = step(b)
			}
			same(t, b.d, b.x, []int{0, 1, 2}, []int64{2, 3, 4, 5})
			return
		}
		for _, step := range every {
			told = append(told, step)
			try(left - 1)
			told = told[:len(told)-1]
		}
	}
	for n := range 5 {
		if n == 4 && testing.Short() {
			return
		}
		try(n)
	}
}

// P20.1: any order of calls, looked at behind each; all deltas that have come of it stay what they are.
func TestAnyOrder(t *testing.T) {
	rnd := rand.New(rand.NewPCG(20, 1))
	rows, times := []int{-1, 0, 1, 2, 3, 4}, []int64{-1, 0, 3, 4, 7, 8}
	for range 150 {
		d, x := deltaOf(t, rnd, rnd.IntN(6))
		all := []both{{d, x}}
		for range 20 {
			b := all[rnd.IntN(len(all))]
			at := rnd.Int64N(10) - 1
			switch rnd.IntN(5) {
			case 0:
				all = append(all, both{b.d.Upto(at), b.x.cut(func(e entry) bool { return e.p.Time <= at })})
			case 1:
				all = append(all, both{b.d.After(at), b.x.cut(func(e entry) bool { return e.p.Time > at })})
			case 2:
				o := all[rnd.IntN(len(all))]
				want := b.x.merge(o.x)
				if e := b.d.Merge(o.d); e != want {
					t.Fatalf("Merge = %d; want %d", e, want)
				}
			default:
				add(t, b.d, b.x, place(rnd.IntN(4), at), changeOf(rnd, at))
			}
			for _, b := range all {
				same(t, b.d, b.x, rows, times)
			}
		}
	}
}

// P20.1, P1: rows and times of all sizes.
func TestFarAway(t *testing.T) {
	d, x := delta.New(), &plain{}
	for _, r := range []int{0, 4095} {
		for _, time := range []int64{0, 1, most - 1, most} {
			add(t, d, x, place(r, time), insert(time, row(time%100, strconv.Itoa(r))))
		}
	}
	same(t, d, x, huge, far)
	for _, time := range far {
		upto, after := x.cut(func(e entry) bool { return e.p.Time <= time }), x.cut(func(e entry) bool { return e.p.Time > time })
		same(t, d.Upto(time), upto, huge, far)
		same(t, d.After(time), after, huge, far)
	}
}

// P20.1: a state that is handed in for a row that isn't there stays as it is, until an insert or a delete makes it another.
func TestStateOfNoRow(t *testing.T) {
	d := delta.New()
	want := func(from, to int64, cells []api.Cell, live bool) {
		t.Helper()
		if got, is := d.Redo(3, row(7, "x"), false, from, to); is != live || !sameRow(got, cells) {
			t.Errorf("Redo(3, .., false, %d, %d) = %v, %t; want %v, %t", from, to, got, is, cells, live)
		}
	}
	wantBack := func(to int64, cells []api.Cell, live bool) {
		t.Helper()
		if got, is := d.Undo(3, row(7, "x"), false, to); is != live || !sameRow(got, cells) {
			t.Errorf("Undo(3, .., false, %d) = %v, %t; want %v, %t", to, got, is, cells, live)
		}
	}
	want(-1, most, row(7, "x"), false)
	wantBack(-1, row(7, "x"), false)
	for _, c := range []api.Change{update(5, to("y")), remove(6), update(7, to("z")), insert(8, row(8, "a")), update(9, to("b"))} {
		if e := d.Add(place(3, c.Time), c); e != api.OK {
			t.Fatalf("Add = %d", e)
		}
	}
	want(4, 5, row(7, "x"), false)
	want(6, 7, row(7, "x"), false)
	want(4, 6, nil, false)
	want(4, 7, nil, false)
	want(4, 8, row(8, "a"), true)
	want(4, 9, row(8, "b"), true)
	want(8, 9, row(7, "x"), false)
	wantBack(9, row(7, "x"), false)
	wantBack(8, row(7, "x"), false)
	wantBack(7, row(8, "a"), true)
	wantBack(6, row(8, "z"), true)
	wantBack(5, nil, false)
	wantBack(4, nil, false)
}

// P20.1: states of all sorts, and changes that don't fit them.
func TestRedoAndUndo(t *testing.T) {
	set := func(col int, c api.Cell) api.Set { return api.Set{Col: col, Cell: c} }
	d := delta.New()
	for _, c := range []api.Change{
		update(2, []api.Set{set(0, number(20)), set(2, number(22)), set(-1, number(23)), set(math.MaxInt, null()), set(math.MinInt, null())}),
		{Time: 4, Kind: api.OInsert, Row: []api.Cell{number(40)}, Sets: []api.Set{set(0, number(41))}},
		update(5, []api.Set{set(0, number(50)), set(1, number(51)), set(0, number(52))}),
		{Time: 6, Kind: api.ODelete, Row: []api.Cell{number(60)}, Sets: []api.Set{set(0, number(61))}},
		{Time: 7, Kind: api.OUpdate, Row: []api.Cell{number(70)}, Sets: []api.Set{set(0, number(71))}},
		insert(8, nil),
		update(9, []api.Set{set(0, number(90))}),
	} {
		if e := d.Add(place(0, c.Time), c); e != api.OK {
			t.Fatalf("Add = %d", e)
		}
	}
	three := []api.Cell{number(1), number(2), number(3)}
	for i, x := range []struct {
		state    []api.Cell
		live     bool
		from, to int64
		want     []api.Cell
		is       bool
	}{
		{three, true, 0, 1, three, true},
		{three, true, 2, 3, three, true},
		{three, true, 1, 2, []api.Cell{number(20), number(2), number(22)}, true},
		{three, true, 2, 1, three, true},
		{three, true, 9, 2, three, true},
		{three[:1], true, 1, 2, []api.Cell{number(20)}, true},
		{nil, true, 1, 2, nil, true},
		{[]api.Cell{}, true, 0, 0, nil, true},
		{three, false, 1, 2, three, false},
		{three, false, 0, 0, three, false},
		{three, false, 6, 7, three, false},
		{three, false, 5, 6, nil, false},
		{three, false, 5, 7, nil, false},
		{three, false, 1, 4, []api.Cell{number(40)}, true},
		{three[:1], false, 0, 1, three[:1], false},
		{[]api.Cell{{}}, false, 0, 0, []api.Cell{{}}, false},
		{nil, false, 1, 2, nil, false},
		{[]api.Cell{}, false, 0, 0, nil, false},
		{three, true, 1, 4, []api.Cell{number(40)}, true},
		{nil, false, 1, 4, []api.Cell{number(40)}, true},
		{nil, false, 1, 5, []api.Cell{number(52)}, true},
		{three, true, 4, 5, []api.Cell{number(52), number(51), number(3)}, true},
		{three, true, 5, 6, nil, false},
		{three, true, 5, 7, nil, false},
		{three, true, 6, 7, []api.Cell{number(71), number(2), number(3)}, true},
		{three, true, 0, 8, nil, true},
		{three, true, 0, 9, nil, true},
		{three, true, math.MinInt64, math.MaxInt64, nil, true},
		{three, true, math.MaxInt64, math.MinInt64, three, true},
	} {
		if got, is := d.Redo(0, x.state, x.live, x.from, x.to); is != x.is || !sameRow(got, x.want) {
			t.Errorf("%d: Redo = %v, %t; want %v, %t", i, got, is, x.want, x.is)
		}
	}
	for i, x := range []struct {
		live bool
		to   int64
		want []api.Cell
		is   bool
	}{
		{true, 9, three, true},
		{false, 9, three, false},
		{true, 8, []api.Cell{number(90), number(2), number(3)}, true},
		{false, 8, three, false},
		{true, 7, nil, true},
		{false, 7, nil, true},
		{true, 6, nil, true},
		{true, 5, nil, false},
		{false, 5, nil, false},
		{true, 4, nil, false},
		{true, 3, []api.Cell{number(40)}, true},
		{true, 1, []api.Cell{number(20)}, true},
		{false, math.MinInt64, []api.Cell{number(20)}, true},
	} {
		if got, is := d.Undo(0, three, x.live, x.to); is != x.is || !sameRow(got, x.want) {
			t.Errorf("%d: Undo to %d = %v, %t; want %v, %t", i, x.to, got, is, x.want, x.is)
		}
	}
}

func schemaOf(rnd *rand.Rand) api.Schema {
	n := 1 + rnd.IntN(6)
	s := api.Schema{Keys: 1 + rnd.IntN(min(3, n))}
	for i := range n {
		s.Cols = append(s.Cols, api.Column{Name: "c" + strconv.Itoa(i), Kind: 1 + rnd.IntN(8), Null: i >= s.Keys && rnd.IntN(2) == 0})
	}
	return s
}

func cellOf(rnd *rand.Rand, col api.Column) api.Cell {
	switch {
	case col.Null && rnd.IntN(3) == 0:
		return null()
	case cell.Number(col.Kind):
		return number(rnd.Int64N(2))
	}
	return text([]string{"", "a", "b", "ab"}[rnd.IntN(4)])
}

func rowOf(rnd *rand.Rand, cols []api.Column) []api.Cell {
	var row []api.Cell
	for _, col := range cols {
		row = append(row, cellOf(rnd, col))
	}
	return row
}

func setsOf(rnd *rand.Rand, s api.Schema) []api.Set {
	var sets []api.Set
	for col := s.Keys; col < len(s.Cols); col++ {
		if rnd.IntN(2) == 0 {
			sets = append(sets, api.Set{Col: col, Cell: cellOf(rnd, s.Cols[col])})
		}
	}
	return sets
}

// chainOf is a chain of n changes at most.
func chainOf(rnd *rand.Rand, s api.Schema, n int) []api.Change {
	key := rowOf(rnd, s.Cols[:s.Keys])
	var changes []api.Change
	there, time := false, rnd.Int64N(3)
	for range n {
		sets := setsOf(rnd, s)
		switch {
		case !there:
			changes = append(changes, insert(time, append(slices.Clone(key), rowOf(rnd, s.Cols[s.Keys:])...)))
			there = true
		case rnd.IntN(4) == 0:
			changes = append(changes, remove(time))
			there = false
		case len(sets) > 0:
			changes = append(changes, update(time, sets))
		}
		time += 1 + rnd.Int64N(3)
	}
	return changes
}

// P20.1.
func TestUndos(t *testing.T) {
	noted := func(name string, note api.Cell) []api.Cell { return []api.Cell{number(7), text(name), note} }
	changes := []api.Change{
		insert(0, noted("a", number(1))),
		update(2, []api.Set{{Col: 1, Cell: text("b")}, {Col: 2, Cell: null()}}),
		update(4, []api.Set{{Col: 2, Cell: number(2)}}),
		remove(5),
		insert(6, noted("c", null())),
		remove(most),
	}
	undos := []api.Change{
		remove(0),
		update(2, []api.Set{{Col: 1, Cell: text("a")}, {Col: 2, Cell: number(1)}}),
		update(4, []api.Set{{Col: 2, Cell: null()}}),
		insert(5, noted("b", number(2))),
		remove(6),
		insert(most, noted("c", null())),
	}
	for upto, n := range map[int64]int{math.MinInt64: 0, -1: 0, 0: 1, 1: 1, 2: 2, 3: 2, 4: 3, 5: 4, 6: 5, 7: 5, most - 1: 5, most: 6, most + 1: 6, math.MaxInt64: 6} {
		if got := delta.Undos(changes, upto); !sameChanges(got, undos[:n]) {
			t.Errorf("Undos up to %d = %v; want %v", upto, got, undos[:n])
		}
		if got := delta.Undos(nil, upto); len(got) != 0 {
			t.Errorf("Undos of nothing = %v", got)
		}
	}
}

// P20.1, P20.2: of any chain, from any time to any other.
func TestChainsReadOnAndBack(t *testing.T) {
	rnd := rand.New(rand.NewPCG(20, 2))
	for range 1500 {
		s := schemaOf(rnd)
		changes := chainOf(rnd, s, rnd.IntN(9))
		for base := int64(-1); base < 25; base++ {
			undos := delta.Undos(changes, base)
			if want := plainUndos(changes, base); !sameChanges(undos, want) {
				t.Fatalf("Undos(%v, %d) = %v; want %v", changes, base, undos, want)
			}
			undo, redo := delta.New(), delta.New()
			for _, c := range undos {
				undo.Add(place(2, c.Time), c)
			}
			for _, c := range changes {
				if c.Time > base {
					redo.Add(place(2, c.Time), c)
				}
			}
			state, live := memstore.State(changes, base)
			for time := int64(-1); time < 25; time++ {
				want, ok := memstore.State(changes, time)
				got, is := undo.Undo(2, state, live, time)
				if time >= base {
					got, is = redo.Redo(2, state, live, base, time)
				}
				if is != ok || !sameRow(got, want) {
					t.Fatalf("%v, from %d to %d: %v, %t; want %v, %t", changes, base, time, got, is, want, ok)
				}
			}
		}
	}
}

// P1: of changes that are no chain nothing is told for sure, but the call ends.
func TestUndosOfNoChain(t *testing.T) {
	rnd := rand.New(rand.NewPCG(20, 3))
	for range 20000 {
		var changes []api.Change
		for range rnd.IntN(5) {
			c := api.Change{Time: far[rnd.IntN(len(far))], Kind: rnd.IntN(5), Row: make([]api.Cell, rnd.IntN(3))}
			for range rnd.IntN(3) {
				c.Sets = append(c.Sets, api.Set{Col: []int{math.MinInt, -1, 0, 1, 2, 3, math.MaxInt}[rnd.IntN(7)]})
			}
			changes = append(changes, c)
		}
		for _, time := range far {
			delta.Undos(changes, time)
		}
	}
}

// P20.1: the form, byte by byte.
func TestForm(t *testing.T) {
	d := delta.New()
	for _, c := range []entry{
		{place(300, 5), update(5, to("y"))},
		{place(3, most), remove(most)},
		{place(3, 130), insert(130, row(7, "x"))},
		{place(0, 0), insert(0, row(-1, ""))},
	} {
		if e := d.Add(c.p, c.c); e != api.OK {
			t.Fatalf("Add = %d", e)
		}
	}
	want := slices.Concat(
		framed(1, []byte{0, 0, 1, 1, 1, 0, 0}),
		framed(1, []byte{3, 0x82, 1, 1, 14, 1, 1, 'x', 0}),
		framed(3, []byte{3, 0x80, 0x80, 0x80, 0x80, 0x80, 0x20}),
		framed(2, []byte{0xac, 2, 5, 1, 1, 1, 1, 'y'}),
	)
	got, e := d.Encode(table())
	if e != api.OK || !bytes.Equal(got, want) {
		t.Errorf("Encode = %x, %d; want %x", got, e, want)
	}
	if b, e := delta.New().Encode(table()); e != api.OK || len(b) != 0 {
		t.Errorf("Encode of nothing = %x, %d", b, e)
	}
	for _, none := range [][]byte{nil, {}} {
		if d, e := delta.Decode(table(), none); e != api.OK || d == nil || d.Len() != 0 {
			t.Errorf("Decode of nothing = %v, %d", d, e)
		}
	}
}

// P20.1: each error of Encode, and which one is named first.
func TestEncodeErrors(t *testing.T) {
	bad := []api.Set{{Col: 1, Cell: null()}}
	for i, x := range []struct {
		changes []api.Change
		e       api.Errno
	}{
		{[]api.Change{insert(1, row(7, "x")), insert(2, row(7, "x"))}, api.OK},
		{[]api.Change{update(1, to("y")), remove(2), remove(3)}, api.OK},
		{[]api.Change{insert(1, nil)}, api.ErrCols},
		{[]api.Change{insert(1, []api.Cell{number(1 << 31), text("x"), null()})}, api.ErrRange},
		{[]api.Change{{Time: 1, Kind: api.OInsert, Row: []api.Cell{null(), text("x"), null()}, Sets: to("y")}}, api.ErrNull},
		{[]api.Change{{Time: 1, Kind: api.OInsert, Row: row(7, "x"), Sets: bad}}, api.ErrCols},
		{[]api.Change{{Time: 1, Kind: api.OInsert, Row: row(7, "x"), Sets: []api.Set{}}}, api.OK},
		{[]api.Change{{Time: 1, Kind: api.OUpdate, Row: row(7, "x")[:1], Sets: bad}}, api.ErrCols},
		{[]api.Change{{Time: 1, Kind: api.OUpdate, Row: row(7, "x")[:1], Sets: to("y")}}, api.ErrCols},
		{[]api.Change{update(1, bad)}, api.ErrNull},
		{[]api.Change{update(1, nil)}, api.ErrCols},
		{[]api.Change{update(1, []api.Set{{Col: 0, Cell: number(1)}})}, api.ErrCols},
		{[]api.Change{{Time: 1, Kind: api.ODelete, Row: row(7, "x")[:1]}}, api.ErrCols},
		{[]api.Change{{Time: 1, Kind: api.ODelete, Sets: bad}}, api.ErrCols},
		{[]api.Change{update(2, bad), insert(1, nil)}, api.ErrCols},
		{[]api.Change{update(1, bad), insert(2, nil)}, api.ErrNull},
		{[]api.Change{remove(1), update(2, bad), insert(3, nil)}, api.ErrNull},
	} {
		d, y := delta.New(), &plain{}
		for _, c := range x.changes {
			add(t, d, y, place(3, c.Time), c)
		}
		if b, e := d.Encode(table()); e != x.e || e != api.OK && b != nil {
			t.Errorf("%d: Encode = %x, %d; want %d", i, b, e, x.e)
		}
		// Of two rows the lower one's error is told, whatever its time.
		add(t, d, y, place(2, 9), update(9, []api.Set{{Col: 2, Cell: number(128)}}))
		if b, e := d.Encode(table()); e != api.ErrRange || b != nil {
			t.Errorf("%d: Encode = %x, %d", i, b, e)
		}
		for _, s := range []api.Schema{{}, {Keys: 1}, {Cols: table().Cols, Keys: 4}} {
			if b, e := d.Encode(s); e != api.ErrSchema || b != nil {
				t.Errorf("%d: Encode by no schema = %x, %d", i, b, e)
			}
			if d, e := delta.Decode(s, []byte{1}); e != api.ErrSchema || d != nil {
				t.Errorf("%d: Decode by no schema = %v, %d", i, d, e)
			}
		}
	}
	if b, e := delta.New().Encode(api.Schema{}); e != api.ErrSchema || b != nil {
		t.Errorf("Encode of nothing by no schema = %x, %d", b, e)
	}
	if d, e := delta.Decode(api.Schema{}, nil); e != api.ErrSchema || d != nil {
		t.Errorf("Decode of nothing by no schema = %v, %d", d, e)
	}
}

// wantDecode holds Decode against the plain reading; what is decoded is written in no other way.
func wantDecode(t *testing.T, s api.Schema, b []byte) api.Errno {
	t.Helper()
	x, want := plainDecode(s, b)
	d, e := delta.Decode(s, b)
	if e != want || (d == nil) != (e != api.OK) {
		t.Fatalf("Decode(%x) = %v, %d; want %d", b, d, e, want)
	}
	if e != api.OK {
		return e
	}
	if again, e := d.Encode(s); e != api.OK || !bytes.Equal(again, b) {
		t.Fatalf("Decode(%x) is written otherwise: %x, %d", b, again, e)
	}
	if d.Len() != len(x.all) || !slices.Equal(d.Rows(), x.rows()) {
		t.Fatalf("Decode(%x): Len %d, Rows %v; want %v", b, d.Len(), d.Rows(), x.all)
	}
	for _, r := range append(x.rows(), -1, 0, 1) {
		if !sameChanges(d.Of(r), x.of(r)) {
			t.Fatalf("Decode(%x): Of(%d) = %v; want %v", b, r, d.Of(r), x.of(r))
		}
	}
	return api.OK
}

// rightOf is a delta that can be encoded.
func rightOf(rnd *rand.Rand, s api.Schema, n int) *delta.Delta {
	d := delta.New()
	for range n {
		p := place(rnd.IntN(3)*rnd.IntN(2000), rnd.Int64N(9)<<rnd.IntN(36))
		c := api.Change{Time: p.Time, Kind: 1 + rnd.IntN(3)}
		switch c.Kind {
		case api.OInsert:
			c.Row = rowOf(rnd, s.Cols)
		case api.OUpdate:
			if c.Sets = setsOf(rnd, s); len(c.Sets) == 0 {
				continue
			}
		}
		d.Add(p, c)
	}
	return d
}

// P20.3: what is encoded is decoded again; parts are joined again.
func TestThereAndBack(t *testing.T) {
	rnd := rand.New(rand.NewPCG(20, 4))
	for range 3000 {
		s := schemaOf(rnd)
		d := rightOf(rnd, s, rnd.IntN(12))
		b, e := d.Encode(s)
		if e != api.OK {
			t.Fatalf("Encode = %d", e)
		}
		if e := wantDecode(t, s, b); e != api.OK {
			t.Fatalf("Decode(%x) = %d", b, e)
		}
		at := rnd.Int64N(9) << rnd.IntN(36)
		for _, parts := range [][2]*delta.Delta{{d.Upto(at), d.After(at)}, {d.After(at), d.Upto(at)}} {
			if parts[0].Len()+parts[1].Len() != d.Len() {
				t.Fatalf("Upto and After %d have %d and %d of %d", at, parts[0].Len(), parts[1].Len(), d.Len())
			}
			if e := parts[0].Merge(parts[1]); e != api.OK {
				t.Fatalf("Merge = %d", e)
			}
			if again, e := parts[0].Encode(s); e != api.OK || !bytes.Equal(again, b) {
				t.Fatalf("joined again it is %x, %d; want %x", again, e, b)
			}
		}
	}
}

// P20.1, P20.3: rows and times at their bounds, and numbers in another form.
func TestDecodeBounds(t *testing.T) {
	for _, r := range []uint64{0, 1, 4094, 4095, 4096, 4097, 1 << 31, 1<<32 + 1, 1 << 63, math.MaxUint64} {
		for _, time := range []uint64{0, 1, 1<<40 - 1, 1 << 40, 1<<40 + 1, 1 << 63, 1<<63 + 1, math.MaxUint64} {
			want := api.ErrCorrupt
			if r <= 4095 && time <= 1<<40 {
				want = api.OK
			}
			if e := wantDecode(t, table(), framed(3, numbers(r, time))); e != want {
				t.Errorf("Decode of row %d, time %d = %d; want %d", r, time, e, want)
			}
		}
	}
	for _, body := range []string{"", "\x01", "\x80", "\x80\x00\x01", "\x01\x80\x00", "\x01\x80", "\x01\x02\x03", "\x01\x02\x00", "\xff\xff\xff\xff\xff\xff\xff\xff\xff\x02\x01"} {
		if e := wantDecode(t, table(), framed(3, []byte(body))); e != api.ErrCorrupt {
			t.Errorf("Decode of a delete %x = %d", body, e)
		}
	}
}

// P20.1: each kind of frame, with what it may hold and what not.
func TestDecodeKinds(t *testing.T) {
	at := numbers(3, 5)
	r, _ := schema.PutRow(table(), row(7, "x"))
	sets, _ := schema.PutSets(table(), []api.Set{{Col: 2, Cell: number(5)}})
	for kind := range 256 {
		for i, brought := range [][]byte{r, sets, nil, append(slices.Clone(r), 0), append(slices.Clone(sets), 0), r[:len(r)-1], sets[:len(sets)-1], {0}} {
			want := api.ErrCorrupt
			if kind == i+1 && i < 3 {
				want = api.OK
			}
			if e := wantDecode(t, table(), framed(byte(kind), slices.Concat(at, brought))); e != want {
				t.Errorf("Decode of kind %d with %x = %d; want %d", kind, brought, e, want)
			}
		}
	}
	for _, brought := range []string{"\x01\x00\x01\x0e", "\x01\x03\x01\x0e", "\x02\x01\x01\x00\x01\x01\x00", "\x02\x02\x00\x01\x01\x00", "\x01\x01\x00", "\x01\x02\x01\x80\x02", "\x81\x00\x02\x00", "\x0d\x02\x00"} {
		if e := wantDecode(t, table(), framed(2, append(slices.Clone(at), brought...))); e != api.ErrCorrupt {
			t.Errorf("Decode of sets %x = %d", brought, e)
		}
	}
	if e := wantDecode(t, table(), framed(2, append(slices.Clone(at), "\x02\x01\x01\x00\x02\x00"...))); e != api.OK {
		t.Errorf("Decode of two sets = %d", e)
	}
}

// P20.1, P20.3: the places have to rise.
func TestDecodeOrder(t *testing.T) {
	var places []api.Place
	for _, r := range []int{0, 1, 2, 4095} {
		for _, time := range []int64{0, 1, 2, most} {
			places = append(places, place(r, time))
		}
	}
	one := func(p api.Place) []byte { return framed(3, numbers(uint64(p.Row), uint64(p.Time))) }
	for i, p := range places {
		for j, q := range places {
			want := api.ErrCorrupt
			if i < j {
				want = api.OK
			}
			if e := wantDecode(t, table(), slices.Concat(one(p), one(q))); e != want {
				t.Errorf("Decode of %v and %v = %d; want %d", p, q, e, want)
			}
			for k, r := range places {
				b := slices.Concat(one(p), one(q), one(r))
				if e := wantDecode(t, table(), b); (e == api.OK) != (i < j && j < k) {
					t.Errorf("Decode of %v, %v and %v = %d", p, q, r, e)
				}
			}
		}
	}
}

// P20.1, P20.3: bodies that are bent, and then framed anew.
func TestDecodeOfAny(t *testing.T) {
	rnd := rand.New(rand.NewPCG(20, 5))
	told := map[api.Errno]int{}
	for range 20000 {
		s := schemaOf(rnd)
		b, _ := rightOf(rnd, s, 1+rnd.IntN(4)).Encode(s)
		frames, _, _ := frame.Scan(b)
		var bent []byte
		which := rnd.IntN(len(frames) + 1)
		for i, f := range frames {
			if i == which {
				f.Body = bend(rnd, f.Body)
				if rnd.IntN(8) == 0 {
					f.Kind = 1 + rnd.IntN(4)
				}
			}
			bent = append(bent, framed(byte(f.Kind), f.Body)...)
		}
		if rnd.IntN(10) == 0 {
			s = schemaOf(rnd)
		}
		told[wantDecode(t, s, bent)]++
		wantDecode(t, s, append(bent, 0))
	}
	if told[api.OK] < 1000 || told[api.ErrCorrupt] < 1000 {
		t.Errorf("told: %v", told)
	}
}

func bend(rnd *rand.Rand, b []byte) []byte {
	at := rnd.IntN(len(b) + 1)
	switch rnd.IntN(4) {
	case 0:
		return slices.Insert(b, at, []byte{0, 1, 2, 0x80, 0xff}[rnd.IntN(5)])
	case 1:
		return b[:at]
	case 2:
		return slices.Delete(b, min(at, len(b)-1), min(at, len(b)-1)+1)
	}
	b[min(at, len(b)-1)] = []byte{0, 1, 2, 3, 0x80, 0xff}[rnd.IntN(6)]
	return b
}

// P20.1: beginnings, ends and single frames of a written delta.
func TestDecodeOfPieces(t *testing.T) {
	d := delta.New()
	for i := range int64(4) {
		d.Add(place(int(i), i), insert(i, row(i, "x")))
	}
	b, _ := d.Encode(table())
	whole := 0
	for n := range len(b) + 1 {
		if wantDecode(t, table(), b[:n]) == api.OK {
			whole++
		}
		if n > 0 {
			wantDecode(t, table(), b[n:])
			wantDecode(t, table(), slices.Delete(slices.Clone(b), n-1, n))
		}
	}
	if whole != 5 {
		t.Errorf("%d beginnings are deltas", whole)
	}
}

// P20.4: every run of some lengths at every place, and any other run.
func TestTurned(t *testing.T) {
	rnd := rand.New(rand.NewPCG(20, 6))
	s := table()
	d := delta.New()
	for _, c := range []entry{{place(0, 1), insert(1, row(7, "x"))}, {place(0, 300), update(300, to("yy"))}, {place(9, 1), remove(1)}, {place(9, 2), insert(2, row(8, ""))}} {
		d.Add(c.p, c.c)
	}
	b, _ := d.Encode(s)
	turn := func(from int, mask uint32) {
		bent := slices.Clone(b)
		for i := range 32 {
			if at := from + i; mask>>i&1 == 1 && at < 8*len(b) {
				bent[at/8] ^= 1 << (at % 8)
			}
		}
		if bytes.Equal(bent, b) {
			return
		}
		if d, e := delta.Decode(s, bent); d != nil || e != api.ErrCorrupt {
			t.Fatalf("turned from %d by %x, Decode = %v, %d", from, mask, d, e)
		}
	}
	for from := range 8 * len(b) {
		for n := range 32 {
			turn(from, 1<<n|1)
			turn(from, math.MaxUint32>>n)
		}
		for range 100 {
			turn(from, rnd.Uint32())
		}
	}
}

// area is the memory of a list, its spare room too. By the pointer it stays in use.
type area struct {
	from unsafe.Pointer
	size uintptr
}

func (a area) begin() uintptr { return uintptr(a.from) }

func areaOf[T any](list []T) area {
	if cap(list) == 0 {
		return area{}
	}
	return area{unsafe.Pointer(unsafe.SliceData(list)), uintptr(cap(list)) * unsafe.Sizeof(list[:1][0])}
}

func areasOfRow(row []api.Cell) []area {
	all := []area{areaOf(row)}
	for _, c := range row {
		all = append(all, areaOf(c.B))
	}
	return all
}

func areasOfChanges(changes []api.Change) []area {
	all := []area{areaOf(changes)}
	for _, c := range changes {
		all = append(append(all, areasOfRow(c.Row)...), areaOf(c.Sets))
		for _, set := range c.Sets {
			all = append(all, areaOf(set.Cell.B))
		}
	}
	return all
}

func wantApart(t *testing.T, all []area) {
	t.Helper()
	all = slices.DeleteFunc(all, func(a area) bool { return a == area{} })
	slices.SortFunc(all, func(a, b area) int { return cmp.Compare(a.begin(), b.begin()) })
	for i := range all {
		if i > 0 && all[i].begin() < all[i-1].begin()+all[i-1].size {
			t.Fatal("two lists share memory")
		}
	}
}

// spoil writes over cells, what they hold, and all spare room.
func spoil(row []api.Cell) {
	row = row[:cap(row)]
	for i := range row {
		spoilList(row[i].B, '~')
		row[i] = api.Cell{Null: true, Int: -77, B: []byte("~")}
	}
}

func spoilList[T any](list []T, v T) {
	list = list[:cap(list)]
	for i := range list {
		list[i] = v
	}
}

func spoilChanges(changes []api.Change) {
	for _, c := range changes {
		spoil(c.Row)
		for _, set := range c.Sets {
			spoilList(set.Cell.B, '~')
		}
		spoilList(c.Sets, api.Set{Col: -77})
	}
	spoilList(changes, api.Change{Time: -77, Kind: -77})
}

// P20.5: no two lists of all that is handed in and told share memory, those of a delta and of its parts neither.
func TestAnswersAreNew(t *testing.T) {
	rnd := rand.New(rand.NewPCG(20, 7))
	for range 100 {
		s := schemaOf(rnd)
		changes := copyChanges(chainOf(rnd, s, 8))
		undos := delta.Undos(changes, 9)
		all := append(areasOfChanges(changes), areasOfChanges(undos)...)
		d := delta.New()
		for _, c := range changes {
			d.Add(place(1, c.Time), c)
		}
		o := delta.New()
		if e := o.Merge(d); e != api.OK {
			t.Fatalf("Merge = %d", e)
		}
		b, _ := d.Encode(s)
		again, _ := d.Encode(s)
		back, _ := delta.Decode(s, b)
		all = append(all, areaOf(b), areaOf(again))
		for _, d := range []*delta.Delta{d, o, d.Upto(6), d.After(6), back} {
			all = append(append(all, areasOfChanges(d.Of(1))...), areasOfChanges(d.Of(1))...)
			all = append(all, areaOf(d.Rows()), areaOf(d.Rows()))
			state := copyRow(rowOf(rnd, s.Cols))
			all = append(all, areasOfRow(state)...)
			for time := range int64(20) {
				for _, live := range []bool{true, false} {
					r, _ := d.Redo(1, state, live, time-1, 20)
					u, _ := d.Undo(1, state, live, time)
					all = append(append(all, areasOfRow(r)...), areasOfRow(u)...)
				}
			}
		}
		wantApart(t, all)
	}
}

// P20.5: what is handed in stays as it is, and may be written over behind the call, and what is told as well.
func TestNothingIsKept(t *testing.T) {
	rnd := rand.New(rand.NewPCG(20, 8))
	rows, times := []int{0, 1, 2, 3}, []int64{-1, 2, 5, 8}
	for range 300 {
		d, x := delta.New(), &plain{}
		for range 10 {
			time := rnd.Int64N(8)
			p, c := place(rnd.IntN(4), time), changeOf(rnd, time)
			given := copyChange(c)
			if e, want := d.Add(p, given), x.add(p, c); e != want || !sameChange(given, c) {
				t.Fatalf("Add = %d, and %v; want %d, and %v", e, given, want, c)
			}
			spoilChanges([]api.Change{given})
			spoilAnswers(t, d)
			same(t, d, x, rows, times)
		}
		parts := []both{{d.Upto(4), x.cut(func(e entry) bool { return e.p.Time <= 4 })}, {d.After(4), x.cut(func(e entry) bool { return e.p.Time > 4 })}}
		for _, part := range parts {
			spoilAnswers(t, part.d)
			same(t, part.d, part.x, rows, times)
		}
		same(t, d, x, rows, times)
	}
}

// spoilAnswers writes over all that a delta tells, and over what it is asked with.
func spoilAnswers(t *testing.T, d *delta.Delta) {
	t.Helper()
	for _, r := range d.Rows() {
		spoilChanges(d.Of(r))
		state := row(7, "spoilt")
		given := copyRow(state)
		for _, live := range []bool{true, false} {
			redone, _ := d.Redo(r, given, live, -1, 9)
			undone, _ := d.Undo(r, given, live, -1)
			spoil(redone)
			spoil(undone)
			if !sameRow(given, state) || !sameCell(given[:cap(given)][3], api.Cell{}) {
				t.Fatalf("Redo or Undo changes the state to %v", given[:cap(given)])
			}
		}
		spoil(given)
	}
	spoilList(d.Rows(), -77)
	b, e := d.Encode(table())
	if e != api.OK {
		return
	}
	given := slices.Clone(b)
	back, e := delta.Decode(table(), given)
	if e != api.OK || !bytes.Equal(given, b) {
		t.Fatalf("Decode(%x) = %d, and changes it to %x", b, e, given)
	}
	spoilList(given, '~')
	if again, e := back.Encode(table()); e != api.OK || !bytes.Equal(again, b) {
		t.Fatalf("behind writing over its bytes, it is %x, %d; want %x", again, e, b)
	}
	spoilList(b, '~')
}

// P20.5: Undos neither changes nor keeps its chain.
func TestUndosStay(t *testing.T) {
	rnd := rand.New(rand.NewPCG(20, 9))
	for range 1000 {
		changes := chainOf(rnd, schemaOf(rnd), 8)
		given := copyChanges(changes)
		upto := rnd.Int64N(20)
		undos := delta.Undos(given, upto)
		if !sameChanges(given, changes) || !sameChange(given[:cap(given)][len(given)], api.Change{}) {
			t.Fatalf("%v is changed to %v", changes, given)
		}
		spoilChanges(given)
		if want := plainUndos(changes, upto); !sameChanges(undos, want) {
			t.Fatalf("behind writing over the chain, its Undos are %v; want %v", undos, want)
		}
	}
}

// TestMany has as many rows as there may be, and one with many changes: neither takes long.
func TestMany(t *testing.T) {
	begin := time.Now()
	d := delta.New()
	for i := range 10 * 4096 {
		time := int64(i / 4096)
		if e := d.Add(place(i*7%4096, time), update(time, to(strconv.Itoa(i)))); e != api.OK {
			t.Fatalf("Add = %d", e)
		}
	}
	for i := range int64(50000) {
		if e := d.Add(place(5, 1000+i*7919%50000), remove(1000+i*7919%50000)); e != api.OK {
			t.Fatalf("Add = %d", e)
		}
	}
	for r := range 4096 {
		if got, ok := d.Redo(r, row(int64(r), "x"), true, 3, 7); !ok || len(got[1].B) != 5 {
			t.Fatalf("Redo of %d = %v, %t", r, got, ok)
		}
	}
	b, e := d.Encode(table())
	if e != api.OK {
		t.Fatalf("Encode = %d", e)
	}
	back, e := delta.Decode(table(), b)
	if e != api.OK || back.Len() != 90960 || len(back.Rows()) != 4096 {
		t.Fatalf("Decode = %d", e)
	}
	upto, after := back.Upto(5), back.After(5)
	if e := after.Merge(upto); e != api.OK || after.Len() != 90960 {
		t.Fatalf("Merge = %d", e)
	}
	if undos := delta.Undos(manyUpdates(50000), 1<<30); len(undos) != 50001 {
		t.Fatalf("%d undos", len(undos))
	}
	if spent := time.Since(begin); spent > time.Minute {
		t.Errorf("it took %v", spent)
	}
}

func manyUpdates(n int64) []api.Change {
	changes := []api.Change{insert(0, row(5, "x"))}
	for i := range n {
		changes = append(changes, update(i+1, to(strconv.Itoa(int(i)))))
	}
	return changes
}
