package memstore_test

import (
	"bytes"
	"cmp"
	"maps"
	"math"
	"math/rand/v2"
	"slices"
	"strconv"
	"strings"
	"testing"
	"time"
	"unsafe"

	"stoa/api"
	"stoa/cell"
	"stoa/keys"
	"stoa/memstore"
	"stoa/schema"
)

const most = int64(1) << 40 // MaxTime

// far are times of all sizes.
var far = []int64{math.MinInt64, -most, -2, -1, 0, 1, most - 1, most, most + 1, math.MaxInt64}

func number(v int64) api.Cell { return api.Cell{Int: v} }

func text(s string) api.Cell { return api.Cell{B: []byte(s)} }

func null() api.Cell { return api.Cell{Null: true} }

// table is the schema of the chapter's examples, and a column besides.
func table() api.Schema {
	return api.Schema{Cols: []api.Column{{Name: "id", Kind: api.KI32}, {Name: "name", Kind: api.KStr}, {Name: "note", Kind: api.KI8, Null: true}}, Keys: 1}
}

func row(id int64, name string) []api.Cell {
	return []api.Cell{number(id), text(name), null()}
}

func to(name string) []api.Set {
	return []api.Set{{Col: 1, Cell: text(name)}}
}

func keyOf(t *testing.T, s api.Schema, cells ...api.Cell) []byte {
	t.Helper()
	key, e := keys.Encode(s, cells)
	if e != api.OK {
		t.Fatalf("no key: %v, %d", cells, e)
	}
	return key
}

func insert(time int64, row []api.Cell) api.Change {
	return api.Change{Time: time, Kind: api.OInsert, Row: row}
}

func update(time int64, sets []api.Set) api.Change {
	return api.Change{Time: time, Kind: api.OUpdate, Sets: sets}
}

func remove(time int64) api.Change {
	return api.Change{Time: time, Kind: api.ODelete}
}

func sameCell(a, b api.Cell) bool {
	return a.Null == b.Null && a.Int == b.Int && bytes.Equal(a.B, b.B)
}

func sameRow(a, b []api.Cell) bool {
	return slices.EqualFunc(a, b, sameCell)
}

func sameSets(a, b []api.Set) bool {
	return slices.EqualFunc(a, b, func(x, y api.Set) bool { return x.Col == y.Col && sameCell(x.Cell, y.Cell) })
}

func sameChange(a, b api.Change) bool {
	return a.Time == b.Time && a.Kind == b.Kind && sameRow(a.Row, b.Row) && sameSets(a.Sets, b.Sets)
}

func sameHistory(a, b api.History) bool {
	return bytes.Equal(a.Key, b.Key) && slices.EqualFunc(a.Changes, b.Changes, sameChange)
}

// copyRow has spare room behind every list, so that what writes or keeps there is told.
func copyRow(row []api.Cell) []api.Cell {
	all := make([]api.Cell, 0, len(row)+2)
	for _, c := range row {
		c.B = append(make([]byte, 0, len(c.B)+3), c.B...)
		all = append(all, c)
	}
	return all
}

func copySets(sets []api.Set) []api.Set {
	all := make([]api.Set, 0, len(sets)+2)
	for _, set := range sets {
		all = append(all, api.Set{Col: set.Col, Cell: copyRow([]api.Cell{set.Cell})[0]})
	}
	return all
}

func copyChanges(changes []api.Change) []api.Change {
	all := make([]api.Change, 0, len(changes)+2)
	for _, c := range changes {
		all = append(all, api.Change{Time: c.Time, Kind: c.Kind, Row: copyRow(c.Row), Sets: copySets(c.Sets)})
	}
	return all
}

// plainSay is the first of the errors whose case it is.
func plainSay(says ...api.Errno) api.Errno {
	for _, e := range says {
		if e != api.OK {
			return e
		}
	}
	return api.OK
}

func when(is bool, e api.Errno) api.Errno {
	if is {
		return e
	}
	return api.OK
}

// plainChain asks every question of each change, in the chapter's order.
func plainChain(s api.Schema, key []byte, changes []api.Change) api.Errno {
	if schema.Check(s) != api.OK {
		return api.ErrSchema
	}
	if _, e := keys.Decode(s, key); e != api.OK || len(key) > 200 {
		return api.ErrKey
	}
	there := false
	for i, c := range changes {
		says := []api.Errno{
			when(c.Time < 0 || c.Time > most || c.Kind < 1 || c.Kind > 3, api.ErrArg),
			when(i > 0 && c.Time <= changes[max(i, 1)-1].Time, api.ErrOrder),
		}
		switch c.Kind {
		case api.OInsert:
			e := schema.Row(s, c.Row)
			says = append(says, e, when(len(c.Sets) != 0, api.ErrCols))
			if e == api.OK {
				own, _ := keys.Encode(s, c.Row[:s.Keys])
				says = append(says, when(string(own) != string(key), api.ErrKey))
			}
			says = append(says, when(there, api.ErrPresent))
		case api.OUpdate:
			says = append(says, when(len(c.Row) != 0, api.ErrCols), schema.Sets(s, c.Sets), when(!there, api.ErrMissing))
		case api.ODelete:
			says = append(says, when(len(c.Row) != 0 || len(c.Sets) != 0, api.ErrCols), when(!there, api.ErrMissing))
		}
		if e := plainSay(says...); e != api.OK {
			return e
		}
		there = c.Kind != api.ODelete
	}
	return api.OK
}

// plainState looks for the last insert up to t, and then column by column for the last update of it.
func plainState(changes []api.Change, t int64) ([]api.Cell, bool) {
	n := 0
	for n < len(changes) && changes[n].Time <= t {
		n++
	}
	from := n - 1
	for from >= 0 && changes[from].Kind == api.OUpdate {
		from--
	}
	if from < 0 || changes[from].Kind == api.ODelete {
		return nil, false
	}
	row := slices.Clone(changes[from].Row)
	for col := range row {
		for _, c := range changes[from+1 : n] {
			for _, set := range c.Sets {
				if set.Col == col {
					row[col] = set.Cell
				}
			}
		}
	}
	return row, true
}

// plain is a store as a map of chains, whose keys are sorted when they are asked for.
type plain struct {
	s    api.Schema
	rows map[string][]api.Change
}

func newPlain(s api.Schema) *plain {
	return &plain{s: s, rows: map[string][]api.Change{}}
}

func (p *plain) apply(t int64, op api.Op) api.Errno {
	if e := schema.Op(p.s, op); e != api.OK {
		return e
	}
	key, _ := keys.Encode(p.s, op.Row[:p.s.Keys])
	chain := p.rows[string(key)]
	_, there := plainState(chain, math.MaxInt64)
	e := plainSay(
		when(len(key) > 200, api.ErrLong),
		when(t < 0 || t > most, api.ErrArg),
		when(len(chain) > 0 && t <= chain[max(len(chain), 1)-1].Time, api.ErrOrder),
		when(op.Kind == api.OInsert && there, api.ErrPresent),
		when(op.Kind != api.OInsert && !there, api.ErrMissing),
	)
	if e != api.OK {
		return e
	}
	c := api.Change{Time: t, Kind: op.Kind}
	switch op.Kind {
	case api.OInsert:
		c.Row = copyRow(op.Row)
	case api.OUpdate:
		c.Sets = copySets(op.Sets)
	}
	p.rows[string(key)] = append(slices.Clone(chain), c)
	return api.OK
}

func (p *plain) histories() []api.History {
	var all []api.History
	for _, key := range slices.Sorted(maps.Keys(p.rows)) {
		all = append(all, api.History{Key: []byte(key), Changes: p.rows[key]})
	}
	return all
}

// apply does an operation in both stores.
func apply(t *testing.T, m *memstore.Store, p *plain, time int64, op api.Op) api.Errno {
	t.Helper()
	want := p.apply(time, op)
	if e := m.Apply(time, op); e != want {
		t.Fatalf("%v: Apply(%d, %v) = %d; want %d", p.rows, time, op, e, want)
	}
	return want
}

// same holds all that a store tells, at these keys, bounds and times, against the plain one.
func same(t *testing.T, m *memstore.Store, p *plain, asked []string, times []int64) {
	t.Helper()
	all := p.histories()
	if got := m.Histories(); !slices.EqualFunc(got, all, sameHistory) {
		t.Fatalf("Histories = %v; want %v", got, all)
	}
	n := 0
	for _, h := range all {
		n += len(h.Changes)
	}
	if m.Len() != len(all) || m.Changes() != n {
		t.Fatalf("Len %d, Changes %d; want %d, %d", m.Len(), m.Changes(), len(all), n)
	}
	for _, key := range asked {
		chain := p.rows[key]
		_, there := plainState(chain, math.MaxInt64)
		if live, has := m.Live([]byte(key)); live != there || has != (len(chain) > 0) {
			t.Fatalf("Live(%q) = %t, %t; want %t, %t", key, live, has, there, len(chain) > 0)
		}
		for _, time := range times {
			want, ok := plainState(chain, time)
			if got, is := m.At([]byte(key), time); is != ok || !sameRow(got, want) {
				t.Fatalf("At(%q, %d) = %v, %t; want %v, %t", key, time, got, is, want, ok)
			}
		}
	}
	for _, time := range times {
		for _, low := range asked {
			sameScan(t, m, all, low, asked[len(low)%len(asked)], time)
		}
	}
}

func sameScan(t *testing.T, m *memstore.Store, all []api.History, low, high string, time int64) {
	t.Helper()
	for _, high := range []string{high, "", low} {
		found, rows := m.Scan([]byte(low), []byte(high), time)
		n := 0
		for _, h := range all {
			want, ok := plainState(h.Changes, time)
			if !ok || string(h.Key) < low || high != "" && string(h.Key) >= high {
				continue
			}
			if n >= len(found) || n >= len(rows) || !bytes.Equal(found[n], h.Key) || !sameRow(rows[n], want) {
				t.Fatalf("Scan(%q, %q, %d) = %q, %v; %d is to be %q, %v", low, high, time, found, rows, n, h.Key, want)
			}
			n++
		}
		if len(found) != n || len(rows) != n {
			t.Fatalf("Scan(%q, %q, %d) = %q, %v; want %d of them", low, high, time, found, rows, n)
		}
	}
}

func newStore(t *testing.T, s api.Schema, heights ...int) *memstore.Store {
	t.Helper()
	m, e := memstore.New(s, heights...)
	if e != api.OK || m == nil {
		t.Fatalf("New = %v, %d", m, e)
	}
	return m
}

func TestExamples(t *testing.T) {
	s := table()
	s.Cols = s.Cols[:2]
	m := newStore(t, s)
	in := api.Op{Kind: api.OInsert, Row: row(7, "x")[:2]}
	change := api.Op{Kind: api.OUpdate, Row: row(7, "")[:1], Sets: to("y")}
	for i, x := range []struct {
		time int64
		op   api.Op
		e    api.Errno
	}{
		{3, in, api.OK},
		{3, change, api.ErrOrder},
		{5, change, api.OK},
		{6, in, api.ErrPresent},
		{8, api.Op{Kind: api.ODelete, Row: row(7, "")[:1]}, api.OK},
	} {
		if e := m.Apply(x.time, x.op); e != x.e {
			t.Errorf("%d: Apply at %d = %d; want %d", i, x.time, e, x.e)
		}
	}
	key := keyOf(t, s, number(7))
	if got, ok := m.At(key, 4); !ok || !sameRow(got, row(7, "x")[:2]) {
		t.Errorf("At 4 = %v, %t", got, ok)
	}
	if got, ok := m.At(key, 5); !ok || !sameRow(got, row(7, "y")[:2]) {
		t.Errorf("At 5 = %v, %t", got, ok)
	}
	if got, ok := m.At(key, 8); ok || got != nil {
		t.Errorf("At 8 = %v, %t", got, ok)
	}
	if found, rows := m.Scan(nil, nil, 7); len(found) != 1 || len(rows) != 1 {
		t.Errorf("Scan at 7 = %q, %v", found, rows)
	}
}

// P19.1: each error of a chain, and which one is named first.
func TestChainErrors(t *testing.T) {
	s := table()
	key := keyOf(t, s, number(7))
	in, up, out := insert(3, row(7, "x")), update(5, to("y")), remove(8)
	bent := func(c api.Change, bend func(*api.Change)) api.Change {
		bend(&c)
		return c
	}
	bad := []api.Set{{Col: 1, Cell: number(1)}}
	for i, x := range []struct {
		changes []api.Change
		e       api.Errno
	}{
		{nil, api.OK},
		{[]api.Change{in}, api.OK},
		{[]api.Change{in, up, out}, api.OK},
		{[]api.Change{in, out, insert(9, row(7, "z")), remove(most)}, api.OK},
		{[]api.Change{insert(0, row(7, "x")), update(1, to("y")), update(2, to("y"))}, api.OK},
		{[]api.Change{insert(most, row(7, "x"))}, api.OK},
		{[]api.Change{{Time: 3, Kind: api.OInsert, Row: row(7, ""), Sets: []api.Set{}}, {Time: 4, Kind: api.ODelete, Row: []api.Cell{}, Sets: []api.Set{}}}, api.OK},
		{[]api.Change{insert(-1, row(7, "x"))}, api.ErrArg},
		{[]api.Change{insert(most+1, row(7, "x"))}, api.ErrArg},
		{[]api.Change{in, {Time: 5}}, api.ErrArg},
		{[]api.Change{in, {Time: 5, Kind: 4}}, api.ErrArg},
		{[]api.Change{in, {Time: 5, Kind: -1}}, api.ErrArg},
		{[]api.Change{in, {Time: 2, Kind: 4}}, api.ErrArg},
		{[]api.Change{in, update(-1, bad)}, api.ErrArg},
		{[]api.Change{in, update(3, to("y"))}, api.ErrOrder},
		{[]api.Change{in, update(2, bad)}, api.ErrOrder},
		{[]api.Change{in, insert(0, nil)}, api.ErrOrder},
		{[]api.Change{in, up, remove(4)}, api.ErrOrder},
		{[]api.Change{insert(3, row(7, "x")[:2])}, api.ErrCols},
		{[]api.Change{insert(3, nil)}, api.ErrCols},
		{[]api.Change{insert(3, []api.Cell{number(1 << 31), text("x"), null()})}, api.ErrRange},
		{[]api.Change{bent(insert(3, []api.Cell{number(8), null(), null()}), func(c *api.Change) { c.Sets = to("y") })}, api.ErrNull},
		{[]api.Change{bent(insert(3, row(8, "x")), func(c *api.Change) { c.Sets = to("y") })}, api.ErrCols},
		{[]api.Change{insert(3, row(8, "x"))}, api.ErrKey},
		{[]api.Change{in, insert(4, row(8, "x"))}, api.ErrKey},
		{[]api.Change{in, insert(4, row(7, "x"))}, api.ErrPresent},
		{[]api.Change{in, up, insert(6, row(7, "x"))}, api.ErrPresent},
		{[]api.Change{bent(up, func(c *api.Change) { c.Row, c.Sets = row(7, "")[:1], bad })}, api.ErrCols},
		{[]api.Change{in, bent(up, func(c *api.Change) { c.Row = row(7, "")[:1] })}, api.ErrCols},
		{[]api.Change{update(5, nil)}, api.ErrCols},
		{[]api.Change{update(5, []api.Set{{Col: 0, Cell: number(7)}})}, api.ErrCols},
		{[]api.Change{update(5, []api.Set{{Col: 3, Cell: number(7)}})}, api.ErrCols},
		{[]api.Change{update(5, bad)}, api.ErrKind},
		{[]api.Change{in, update(5, bad)}, api.ErrKind},
		{[]api.Change{up}, api.ErrMissing},
		{[]api.Change{in, remove(4), up}, api.ErrMissing},
		{[]api.Change{bent(out, func(c *api.Change) { c.Row = row(7, "")[:1] })}, api.ErrCols},
		{[]api.Change{bent(out, func(c *api.Change) { c.Sets = to("y") })}, api.ErrCols},
		{[]api.Change{in, bent(out, func(c *api.Change) { c.Row = row(7, "") })}, api.ErrCols},
		{[]api.Change{in, bent(out, func(c *api.Change) { c.Sets = bad })}, api.ErrCols},
		{[]api.Change{out}, api.ErrMissing},
		{[]api.Change{in, out, remove(9)}, api.ErrMissing},
		// Change by change: the first one's last error goes ahead of the next one's first.
		{[]api.Change{up, {Time: -1}}, api.ErrMissing},
		{[]api.Change{in, insert(4, row(7, "x")), {Time: -1}}, api.ErrPresent},
		{[]api.Change{insert(3, row(8, "x")), {Time: 1, Kind: 9}}, api.ErrKey},
		{[]api.Change{insert(3, nil), insert(2, nil)}, api.ErrCols},
	} {
		if e := memstore.Chain(s, key, x.changes...); e != x.e {
			t.Errorf("%d: Chain of %v = %d; want %d", i, x.changes, e, x.e)
		}
		if want := plainChain(s, key, x.changes); want != x.e {
			t.Errorf("%d: plainChain of %v = %d; want %d", i, x.changes, want, x.e)
		}
	}
}

// P19.1, P1: kinds and times of all sizes.
func TestChainOfFarNumbers(t *testing.T) {
	s := table()
	key := keyOf(t, s, number(7))
	for _, time := range far {
		want := when(time < 0 || time > most, api.ErrArg)
		if e := memstore.Chain(s, key, insert(time, row(7, "x"))); e != want {
			t.Errorf("Chain of an insert at %d = %d; want %d", time, e, want)
		}
	}
	for _, kind := range []int{math.MinInt, -1, 0, 4, 5, 256 + 1, 1<<32 + 1, math.MaxInt} {
		for _, c := range []api.Change{{Time: 3, Kind: kind}, {Time: 3, Kind: kind, Row: row(7, "x")}, {Time: 3, Kind: kind, Sets: to("x")}} {
			if e := memstore.Chain(s, key, c); e != api.ErrArg {
				t.Errorf("Chain of kind %d = %d", kind, e)
			}
		}
	}
}

// P19.1: the schema ahead of the key, the key ahead of the changes.
func TestChainKeys(t *testing.T) {
	wrong := table()
	wrong.Keys = 0
	for _, s := range []api.Schema{{}, wrong} {
		for _, key := range []string{"", "\x80\x00\x00\x07", "7", strings.Repeat("x", 201)} {
			if e := memstore.Chain(s, []byte(key), api.Change{Time: -1}); e != api.ErrSchema {
				t.Errorf("Chain of %v = %d", s, e)
			}
		}
	}
	for _, key := range []string{"", "\x80\x00\x00", "\x80\x00\x00\x07\x00"} {
		for _, changes := range [][]api.Change{nil, {{Time: -1}}, {insert(3, row(7, "x"))}} {
			if e := memstore.Chain(table(), []byte(key), changes...); e != api.ErrKey {
				t.Errorf("Chain of the key %q = %d", key, e)
			}
		}
	}
	s := api.Schema{Cols: []api.Column{{Name: "a", Kind: api.KStr}, {Name: "b", Kind: api.KStr}}, Keys: 2}
	for a := range 202 {
		for _, n := range []int{198, 199, 200} {
			b := n - a
			if b < 0 || a > 200 {
				continue
			}
			key := strings.Repeat("x", a) + "\x00" + strings.Repeat("y", b) + "\x00"
			in := insert(0, []api.Cell{text(strings.Repeat("x", a)), text(strings.Repeat("y", b))})
			want := when(len(key) > 200, api.ErrKey)
			if e := memstore.Chain(s, []byte(key), in); e != want {
				t.Errorf("Chain of a key of %d bytes = %d; want %d", len(key), e, want)
			}
			if e := memstore.Chain(s, []byte(key)); e != want {
				t.Errorf("Chain of a key of %d bytes, no changes = %d; want %d", len(key), e, want)
			}
			if want == api.OK {
				want = api.ErrMissing
			}
			if e := memstore.Chain(s, []byte(key), remove(1)); e != want {
				t.Errorf("Chain of a key of %d bytes, a delete = %d; want %d", len(key), e, want)
			}
		}
	}
}

func schemaOf(rnd *rand.Rand) api.Schema {
	n := 1 + rnd.IntN(6)
	s := api.Schema{Keys: 1 + rnd.IntN(min(3, n))}
	for i := range n {
		s.Cols = append(s.Cols, api.Column{Name: "c" + strconv.Itoa(i), Kind: 1 + rnd.IntN(8), Null: i >= s.Keys && rnd.IntN(2) == 0})
	}
	return s
}

func cellOf(rnd *rand.Rand, col api.Column) api.Cell {
	switch {
	case col.Null && rnd.IntN(3) == 0:
		return null()
	case cell.Number(col.Kind):
		return number(rnd.Int64N(2))
	}
	return text([]string{"", "a", "b", "ab"}[rnd.IntN(4)])
}

func rowOf(rnd *rand.Rand, cols []api.Column) []api.Cell {
	var row []api.Cell
	for _, col := range cols {
		row = append(row, cellOf(rnd, col))
	}
	return row
}

func setsOf(rnd *rand.Rand, s api.Schema) []api.Set {
	var sets []api.Set
	for col := s.Keys; col < len(s.Cols); col++ {
		if rnd.IntN(2) == 0 {
			sets = append(sets, api.Set{Col: col, Cell: cellOf(rnd, s.Cols[col])})
		}
	}
	return sets
}

// chainOf is a chain of n changes at most of one key.
func chainOf(rnd *rand.Rand, s api.Schema, n int) ([]byte, []api.Change) {
	cells := rowOf(rnd, s.Cols[:s.Keys])
	key, _ := keys.Encode(s, cells)
	var changes []api.Change
	there, time := false, rnd.Int64N(3)
	for range n {
		sets := setsOf(rnd, s)
		switch {
		case !there:
			changes = append(changes, insert(time, append(slices.Clone(cells), rowOf(rnd, s.Cols[s.Keys:])...)))
			there = true
		case rnd.IntN(4) == 0:
			changes = append(changes, remove(time))
			there = false
		case len(sets) > 0:
			changes = append(changes, update(time, sets))
		}
		time += 1 + rnd.Int64N(3)
	}
	return key, changes
}

// bend makes one change of a chain another one.
func bend(rnd *rand.Rand, s api.Schema, changes []api.Change) {
	c := &changes[rnd.IntN(len(changes))]
	switch rnd.IntN(8) {
	case 0:
		c.Time = far[rnd.IntN(len(far))]
	case 1:
		c.Time -= rnd.Int64N(4)
	case 2:
		c.Kind = rnd.IntN(5)
	case 3:
		c.Row = rowOf(rnd, s.Cols)
	case 4:
		c.Sets = setsOf(rnd, s)
	case 5:
		c.Row = nil
	case 6:
		if len(c.Row) > 0 {
			c.Row[rnd.IntN(len(c.Row))] = []api.Cell{null(), number(1 << 40), text("\x00")}[rnd.IntN(3)]
		}
	case 7:
		if len(c.Sets) > 0 {
			c.Sets[rnd.IntN(len(c.Sets))] = api.Set{Col: rnd.IntN(8) - 1, Cell: []api.Cell{null(), number(1), text("\x00")}[rnd.IntN(3)]}
		}
	}
}

// P19.1: chains, and what is one no more.
func TestChainOfAny(t *testing.T) {
	rnd := rand.New(rand.NewPCG(19, 1))
	told := map[api.Errno]int{}
	for range 40000 {
		s := schemaOf(rnd)
		key, changes := chainOf(rnd, s, 1+rnd.IntN(8))
		changes = copyChanges(changes)
		for range rnd.IntN(4) {
			bend(rnd, s, changes)
		}
		e, want := memstore.Chain(s, key, changes...), plainChain(s, key, changes)
		if e != want {
			t.Fatalf("Chain(%v, %q, %v) = %d; want %d", s, key, changes, e, want)
		}
		told[e]++
	}
	for _, e := range []api.Errno{api.OK, api.ErrArg, api.ErrOrder, api.ErrCols, api.ErrKey, api.ErrPresent, api.ErrMissing, api.ErrNull, api.ErrKind, api.ErrRange, api.ErrForm} {
		if told[e] == 0 {
			t.Errorf("no chain told %d", e)
		}
	}
}

// P19.1.
func TestState(t *testing.T) {
	noted := func(name string, note api.Cell) []api.Cell { return []api.Cell{number(7), text(name), note} }
	changes := []api.Change{
		insert(2, noted("a", number(1))),
		update(4, to("b")),
		update(6, []api.Set{{Col: 2, Cell: null()}}),
		update(7, []api.Set{{Col: 1, Cell: text("")}, {Col: 2, Cell: number(2)}}),
		remove(9),
		insert(11, noted("c", null())),
		update(most, to("d")),
	}
	wants := map[int64][]api.Cell{
		2: noted("a", number(1)), 3: noted("a", number(1)), 4: noted("b", number(1)), 5: noted("b", number(1)), 6: noted("b", null()), 7: noted("", number(2)), 8: noted("", number(2)),
		11: noted("c", null()), most - 1: noted("c", null()), most: noted("d", null()), most + 1: noted("d", null()), math.MaxInt64: noted("d", null()),
	}
	for _, time := range append([]int64{2, 3, 4, 5, 6, 7, 8, 9, 10, 11, 12}, far...) {
		want, there := wants[time]
		if time == 12 {
			want, there = wants[11], true
		}
		if got, ok := memstore.State(changes, time); ok != there || !sameRow(got, want) || !ok && got != nil {
			t.Errorf("State at %d = %v, %t; want %v", time, got, ok, want)
		}
	}
	for _, time := range far {
		if got, ok := memstore.State(nil, time); ok || got != nil {
			t.Errorf("State of no changes at %d = %v, %t", time, got, ok)
		}
	}
}

// P19.1, P19.3: any chain at any time; what comes later changes nothing.
func TestStateOfAny(t *testing.T) {
	rnd := rand.New(rand.NewPCG(19, 2))
	for range 10000 {
		s := schemaOf(rnd)
		_, changes := chainOf(rnd, s, rnd.IntN(12))
		for time := int64(-1); time < 30; time++ {
			want, there := plainState(changes, time)
			if got, ok := memstore.State(changes, time); ok != there || !sameRow(got, want) {
				t.Fatalf("State(%v, %d) = %v, %t; want %v, %t", changes, time, got, ok, want, there)
			}
			n := 0
			for n < len(changes) && changes[n].Time <= time {
				n++
			}
			if got, ok := memstore.State(changes[:n], math.MaxInt64); ok != there || !sameRow(got, want) {
				t.Fatalf("State of the changes up to %d of %v = %v, %t; want %v, %t", time, changes, got, ok, want, there)
			}
		}
	}
}

// P1: of changes that are no chain nothing is told for sure, but the call ends.
func TestStateOfNoChain(t *testing.T) {
	rnd := rand.New(rand.NewPCG(19, 3))
	for range 20000 {
		var changes []api.Change
		for range rnd.IntN(5) {
			c := api.Change{Time: far[rnd.IntN(len(far))], Kind: rnd.IntN(5), Row: make([]api.Cell, rnd.IntN(3))}
			for range rnd.IntN(3) {
				c.Sets = append(c.Sets, api.Set{Col: []int{math.MinInt, -1, 0, 1, 2, 3, math.MaxInt}[rnd.IntN(7)]})
			}
			changes = append(changes, c)
		}
		for _, time := range far {
			memstore.State(changes, time)
		}
	}
}

// P19.2: New refuses what is no schema, whatever the heights.
func TestNew(t *testing.T) {
	wrong := table()
	wrong.Cols[0].Null = true
	for _, heights := range [][]int{nil, {}, {0}, {-5, 100}, {math.MinInt, math.MaxInt}} {
		for _, s := range []api.Schema{{}, {Keys: 1}, wrong} {
			if m, e := memstore.New(s, heights...); m != nil || e != api.ErrSchema {
				t.Errorf("New(%v) = %v, %d", s, m, e)
			}
		}
		m := newStore(t, table(), heights...)
		same(t, m, newPlain(table()), []string{"", "\x80\x00\x00\x07", "x"}, far)
		if found, rows := m.Scan(nil, nil, 0); len(found) != 0 || len(rows) != 0 {
			t.Errorf("Scan of nothing = %q, %v", found, rows)
		}
	}
}

// P19.2: each error of Apply, and which one is named first.
func TestApplyErrors(t *testing.T) {
	s := api.Schema{Cols: []api.Column{{Name: "a", Kind: api.KStr}, {Name: "b", Kind: api.KI8}}, Keys: 1}
	long, edge := strings.Repeat("x", 200), strings.Repeat("x", 199)
	in := func(a string, b int64) api.Op {
		return api.Op{Kind: api.OInsert, Row: []api.Cell{text(a), number(b)}}
	}
	up := func(a string, b int64) api.Op {
		return api.Op{Kind: api.OUpdate, Row: []api.Cell{text(a)}, Sets: []api.Set{{Col: 1, Cell: number(b)}}}
	}
	out := func(a string) api.Op { return api.Op{Kind: api.ODelete, Row: []api.Cell{text(a)}} }
	m, p := newStore(t, s, 2, 1), newPlain(s)
	for i, x := range []struct {
		time int64
		op   api.Op
		e    api.Errno
	}{
		{-1, api.Op{}, api.ErrArg},
		{-1, in(long, 128), api.ErrRange},
		{-1, up(long, 128), api.ErrRange},
		{-1, api.Op{Kind: api.ODelete, Row: []api.Cell{text(long), number(1)}}, api.ErrCols},
		{-1, in(strings.Repeat("x", 201), 1), api.ErrLong},
		{-1, in(long, 1), api.ErrLong},
		{0, in(long, 1), api.ErrLong},
		{most + 1, up(long, 1), api.ErrLong},
		{0, out(long), api.ErrLong},
		{-1, in(edge, 1), api.ErrArg},
		{most + 1, in(edge, 1), api.ErrArg},
		{-1, up(edge, 1), api.ErrArg},
		{0, up(edge, 1), api.ErrMissing},
		{0, out(edge), api.ErrMissing},
		{5, in(edge, 1), api.OK},
		{-1, in(edge, 1), api.ErrArg},
		{5, in(edge, 1), api.ErrOrder},
		{4, in(edge, 1), api.ErrOrder},
		{0, out(edge), api.ErrOrder},
		{6, in(edge, 1), api.ErrPresent},
		{6, up(edge, 2), api.OK},
		{7, in(edge, 1), api.ErrPresent},
		{7, out(edge), api.OK},
		{7, out(edge), api.ErrOrder},
		{8, out(edge), api.ErrMissing},
		{8, up(edge, 1), api.ErrMissing},
		{most, in(edge, 1), api.OK},
		{most, up(edge, 1), api.ErrOrder},
		{most + 1, up(edge, 1), api.ErrArg},
		{0, in("", 1), api.OK},
		{1, out(""), api.OK},
	} {
		if e := apply(t, m, p, x.time, x.op); e != x.e {
			t.Errorf("%d: Apply at %d of kind %d = %d; want %d", i, x.time, x.op.Kind, e, x.e)
		}
		same(t, m, p, []string{"", "\x00", "x", edge + "\x00", long, long + "\x00"}, []int64{-1, 0, 1, 5, 6, 7, 8, most, most + 1})
	}
	for _, time := range far {
		apply(t, newStore(t, s), newPlain(s), time, in("a", 1))
	}
}

// call is an operation at a time.
type call struct {
	time int64
	op   api.Op
}

// calls are operations of all kinds on three rows, at times around one another.
func calls() []call {
	var all []call
	for _, id := range []int64{-1, 7, 8} {
		all = append(all,
			call{2, api.Op{Kind: api.OInsert, Row: row(id, "a")}},
			call{4, api.Op{Kind: api.OInsert, Row: row(id, "b")}},
			call{3, api.Op{Kind: api.OUpdate, Row: row(id, "")[:1], Sets: to("c")}},
			call{4, api.Op{Kind: api.OUpdate, Row: row(id, "")[:1], Sets: []api.Set{{Col: 2, Cell: number(id)}}}},
			call{3, api.Op{Kind: api.ODelete, Row: row(id, "")[:1]}},
		)
	}
	return append(all, call{5, api.Op{Kind: api.OUpdate, Row: row(7, "")[:1], Sets: to("d")}}, call{5, api.Op{Kind: api.ODelete, Row: row(7, "")}})
}

// asked are keys, and bytes between and around them.
var asked = []string{"", "\x00", "\x7f\xff\xff\xff", "\x80\x00\x00\x07", "\x80\x00\x00\x07\x00", "\x80\x00\x00\x08", "\xff"}

// P19.2, P19.4: all orders of calls.
func TestAllOrders(t *testing.T) {
	every := calls()
	var told []call
	var try func(left int)
	try = func(left int) {
		if left == 0 {
			m, p := newStore(t, table(), len(told), 2), newPlain(table())
			for _, c := range told {
				apply(t, m, p, c.time, c.op)
			}
			same(t, m, p, asked, []int64{1, 2, 3, 4, 5})
			return
		}
		for _, c := range every {
			told = append(told, c)
			try(left - 1)
			told = told[:len(told)-1]
		}
	}
	for n := range 4 {
		try(n)
	}
}

func opOf(rnd *rand.Rand, s api.Schema) api.Op {
	op := api.Op{Kind: 1 + rnd.IntN(3), Row: rowOf(rnd, s.Cols)}
	switch op.Kind {
	case api.OUpdate:
		op.Row, op.Sets = op.Row[:s.Keys], setsOf(rnd, s)
	case api.ODelete:
		op.Row = op.Row[:s.Keys]
	}
	if rnd.IntN(20) == 0 {
		op.Row = op.Row[:rnd.IntN(len(op.Row))]
	}
	return op
}

func heightsOf(rnd *rand.Rand) []int {
	heights := make([]int, rnd.IntN(6))
	for i := range heights {
		heights[i] = rnd.IntN(15) - 1
	}
	return heights
}

// askedOf are some keys of a schema, and bytes around them.
func askedOf(rnd *rand.Rand, s api.Schema) []string {
	all := []string{"", "\x80", "\xff\xff\xff\xff\xff\xff\xff\xff\xff"}
	for range 6 {
		key, _ := keys.Encode(s, rowOf(rnd, s.Cols[:s.Keys]))
		all = append(all, string(key), string(key)+"\x00", string(key[:rnd.IntN(len(key))]))
	}
	return all
}

// P19.2, P19.4: any order of calls, looked at behind each.
func TestAnyOrder(t *testing.T) {
	rnd := rand.New(rand.NewPCG(19, 4))
	done := 0
	for range 100 {
		s := schemaOf(rnd)
		m, p := newStore(t, s, heightsOf(rnd)...), newPlain(s)
		for i := range 60 {
			if apply(t, m, p, int64(i/2+rnd.IntN(5)-2), opOf(rnd, s)) == api.OK {
				done++
			}
			same(t, m, p, askedOf(rnd, s), []int64{-1, rnd.Int64N(30), int64(i / 2), most})
		}
	}
	if done < 1000 {
		t.Errorf("only %d operations were done", done)
	}
}

// P19.2: the heights change no answer.
func TestHeightsChangeNothing(t *testing.T) {
	rnd := rand.New(rand.NewPCG(19, 5))
	for range 20 {
		s := schemaOf(rnd)
		p := newPlain(s)
		var all []*memstore.Store
		for range 5 {
			all = append(all, newStore(t, s, heightsOf(rnd)...))
		}
		for i := range 80 {
			time, op := int64(i/2+rnd.IntN(5)-2), opOf(rnd, s)
			want := p.apply(time, op)
			for _, m := range all {
				if e := m.Apply(time, op); e != want {
					t.Fatalf("Apply = %d; want %d", e, want)
				}
			}
		}
		at := askedOf(rnd, s)
		for _, m := range all {
			same(t, m, p, at, []int64{-1, 0, 3, 11, 20, 40, 99})
		}
	}
}

// P19.3: what is told of a time stays, whatever is applied behind it.
func TestLaterChangesNothing(t *testing.T) {
	rnd := rand.New(rand.NewPCG(19, 6))
	for range 100 {
		s := schemaOf(rnd)
		m := newStore(t, s, heightsOf(rnd)...)
		type told struct {
			found [][]byte
			rows  [][]api.Cell
		}
		var all []told
		for time := range int64(30) {
			for range 4 {
				m.Apply(time, opOf(rnd, s))
			}
			found, rows := m.Scan(nil, nil, time)
			all = append(all, told{found, rows})
			for past, x := range all {
				found, rows := m.Scan(nil, nil, int64(past))
				if !slices.EqualFunc(found, x.found, bytes.Equal) || !slices.EqualFunc(rows, x.rows, sameRow) {
					t.Fatalf("at %d, behind %d: %q, %v; it was %q, %v", past, time, found, rows, x.found, x.rows)
				}
			}
		}
	}
}

// P19.4: Scan against At, key by key.
func TestScanIsAt(t *testing.T) {
	rnd := rand.New(rand.NewPCG(19, 7))
	for range 50 {
		s := schemaOf(rnd)
		m := newStore(t, s, heightsOf(rnd)...)
		for i := range 100 {
			m.Apply(int64(i/3), opOf(rnd, s))
		}
		for time := range int64(35) {
			bounds := askedOf(rnd, s)
			low, high := []byte(bounds[rnd.IntN(len(bounds))]), []byte(bounds[rnd.IntN(len(bounds))])
			found, rows := m.Scan(low, high, time)
			for _, h := range m.Histories() {
				row, ok := m.At(h.Key, time)
				if !ok || !keys.Within(h.Key, low, high) {
					continue
				}
				if len(found) == 0 || len(rows) == 0 || !bytes.Equal(found[0], h.Key) || !sameRow(rows[0], row) {
					t.Fatalf("Scan(%q, %q, %d) goes on with %q, %v; want %q, %v", low, high, time, found, rows, h.Key, row)
				}
				found, rows = found[1:], rows[1:]
			}
			if len(found) != 0 || len(rows) != 0 {
				t.Fatalf("Scan(%q, %q, %d) goes on with %q, %v", low, high, time, found, rows)
			}
		}
	}
}

// P19.1, P19.2: what a store tells as a story is a chain.
func TestHistoriesAreChains(t *testing.T) {
	rnd := rand.New(rand.NewPCG(19, 8))
	for range 100 {
		s := schemaOf(rnd)
		m := newStore(t, s)
		for i := range 60 {
			m.Apply(int64(i/2), opOf(rnd, s))
		}
		for _, h := range m.Histories() {
			if e := memstore.Chain(s, h.Key, h.Changes...); e != api.OK || len(h.Changes) == 0 {
				t.Fatalf("Chain(%q, %v) = %d", h.Key, h.Changes, e)
			}
		}
	}
}

// area is the memory of a list, its spare room too. By the pointer it stays in use.
type area struct {
	from unsafe.Pointer
	size uintptr
}

func (a area) begin() uintptr { return uintptr(a.from) }

func areaOf[T any](list []T) area {
	if cap(list) == 0 {
		return area{}
	}
	return area{unsafe.Pointer(unsafe.SliceData(list)), uintptr(cap(list)) * unsafe.Sizeof(list[:1][0])}
}

func areasOfRow(row []api.Cell) []area {
	all := []area{areaOf(row)}
	for _, c := range row {
		all = append(all, areaOf(c.B))
	}
	return all
}

func areasOfSets(sets []api.Set) []area {
	all := []area{areaOf(sets)}
	for _, set := range sets {
		all = append(all, areaOf(set.Cell.B))
	}
	return all
}

func areasOfChanges(changes []api.Change) []area {
	all := []area{areaOf(changes)}
	for _, c := range changes {
		all = append(append(all, areasOfRow(c.Row)...), areasOfSets(c.Sets)...)
	}
	return all
}

func areasOfHistories(hs []api.History) []area {
	all := []area{areaOf(hs)}
	for _, h := range hs {
		all = append(append(all, areaOf(h.Key)), areasOfChanges(h.Changes)...)
	}
	return all
}

func areasOfScan(found [][]byte, rows [][]api.Cell) []area {
	all := []area{areaOf(found), areaOf(rows)}
	for _, key := range found {
		all = append(all, areaOf(key))
	}
	for _, row := range rows {
		all = append(all, areasOfRow(row)...)
	}
	return all
}

func wantApart(t *testing.T, all []area) {
	t.Helper()
	all = slices.DeleteFunc(all, func(a area) bool { return a == area{} })
	slices.SortFunc(all, func(a, b area) int { return cmp.Compare(a.begin(), b.begin()) })
	for i := range all {
		if i > 0 && all[i].begin() < all[i-1].begin()+all[i-1].size {
			t.Fatal("two lists share memory")
		}
	}
}

// spoil writes over cells, what they hold, and all spare room.
func spoil(row []api.Cell) {
	row = row[:cap(row)]
	for i := range row {
		b := row[i].B[:cap(row[i].B)]
		for j := range b {
			b[j] = '~'
		}
		row[i] = api.Cell{Null: true, Int: -77, B: []byte("~")}
	}
}

func spoilSets(sets []api.Set) {
	sets = sets[:cap(sets)]
	for i := range sets {
		spoil([]api.Cell{sets[i].Cell})
		sets[i] = api.Set{Col: -77}
	}
}

func spoilChanges(changes []api.Change) {
	changes = changes[:cap(changes)]
	for i := range changes {
		spoil(changes[i].Row)
		spoilSets(changes[i].Sets)
		changes[i] = api.Change{Time: -77, Kind: -77}
	}
}

func spoilBytes(b []byte) {
	b = b[:cap(b)]
	for i := range b {
		b[i] = '~'
	}
}

// P19.5: no two lists of all that is told, handed in and told again share memory.
func TestAnswersAreNew(t *testing.T) {
	rnd := rand.New(rand.NewPCG(19, 9))
	for range 40 {
		s := schemaOf(rnd)
		m := newStore(t, s, 2, 1)
		var all []area
		for i := range 40 {
			op := opOf(rnd, s)
			op.Row, op.Sets = copyRow(op.Row), copySets(op.Sets)
			m.Apply(int64(i/2), op)
			all = append(append(all, areasOfRow(op.Row)...), areasOfSets(op.Sets)...)
		}
		hs := m.Histories()
		all = append(append(all, areasOfHistories(hs)...), areasOfHistories(m.Histories())...)
		for time := range int64(20) {
			all = append(append(all, areasOfScan(m.Scan(nil, nil, time))...), areasOfScan(m.Scan(nil, nil, time))...)
			for _, h := range hs {
				a, _ := m.At(h.Key, time)
				b, _ := memstore.State(h.Changes, time)
				all = append(append(all, areasOfRow(a)...), areasOfRow(b)...)
			}
		}
		wantApart(t, all)
	}
}

// P19.5: what is handed in may be written over behind the call, and what is told as well.
func TestNothingIsKept(t *testing.T) {
	rnd := rand.New(rand.NewPCG(19, 10))
	for range 60 {
		s := schemaOf(rnd)
		own, heights := api.Schema{Keys: s.Keys, Cols: slices.Clone(s.Cols)}, []int{3, 1, 99}
		m, p := newStore(t, own, heights...), newPlain(s)
		for i := range own.Cols {
			own.Cols[i] = api.Column{}
		}
		heights[0], heights[1], heights[2] = 1, 12, 1
		for i := range 40 {
			op := opOf(rnd, s)
			want := p.apply(int64(i/2), op)
			given := api.Op{Kind: op.Kind, Row: copyRow(op.Row), Sets: copySets(op.Sets)}
			if e := m.Apply(int64(i/2), given); e != want {
				t.Fatalf("Apply = %d; want %d", e, want)
			}
			if !sameRow(given.Row, op.Row) || !sameSets(given.Sets, op.Sets) {
				t.Fatalf("Apply changes %v to %v", op, given)
			}
			spoil(given.Row)
			spoilSets(given.Sets)
			at := askedOf(rnd, s)
			same(t, m, p, at, []int64{3, int64(i / 2)})
			spoilAnswers(m, at, int64(i/2))
			same(t, m, p, at, []int64{3, int64(i / 2)})
		}
	}
}

// spoilAnswers writes over all that a store tells, and over what it is asked with.
func spoilAnswers(m *memstore.Store, asked []string, time int64) {
	for _, h := range m.Histories() {
		row, _ := m.At(h.Key, time)
		spoil(row)
		m.Live(h.Key)
		spoilBytes(h.Key)
		spoilChanges(h.Changes)
	}
	for _, key := range asked {
		low, high := []byte(key), []byte(asked[0])
		found, rows := m.Scan(low, high, time)
		for i := range found {
			spoilBytes(found[i])
			spoil(rows[i])
		}
		spoilBytes(low)
		spoilBytes(high)
	}
}

// P19.5: what a call is given stays as it is, the spare room too.
func TestArgumentsStay(t *testing.T) {
	rnd := rand.New(rand.NewPCG(19, 11))
	for range 500 {
		s := schemaOf(rnd)
		key, changes := chainOf(rnd, s, 8)
		given := copyChanges(changes)
		room := given[:cap(given)]
		memstore.Chain(s, key, given...)
		for time := range int64(20) {
			state, _ := memstore.State(given, time)
			spoil(state)
		}
		if !slices.EqualFunc(given, changes, sameChange) || !sameChange(room[len(changes)], api.Change{}) {
			t.Fatalf("%v is changed to %v", changes, given)
		}
		for _, c := range given {
			if len(c.Row) > 0 && !sameCell(c.Row[:cap(c.Row)][len(c.Row)], api.Cell{}) {
				t.Fatalf("behind %v is written", c.Row)
			}
		}
	}
}

// P19.5: what happens in one store is not to be seen in another.
func TestStoresShareNothing(t *testing.T) {
	rnd := rand.New(rand.NewPCG(19, 12))
	s, heights := table(), []int{2, 1}
	a, b := newStore(t, s, heights...), newStore(t, s, heights...)
	p, q := newPlain(s), newPlain(s)
	for i := range 60 {
		op := api.Op{Kind: 1 + rnd.IntN(3), Row: row(7+rnd.Int64N(2), "x")}
		switch op.Kind {
		case api.OUpdate:
			op.Row, op.Sets = op.Row[:1], to(strconv.Itoa(i))
		case api.ODelete:
			op.Row = op.Row[:1]
		}
		if i%2 == 0 {
			apply(t, a, p, int64(i), op)
		} else {
			apply(t, b, q, int64(i), op)
		}
		same(t, a, p, asked, []int64{5, 30, 60})
		same(t, b, q, asked, []int64{5, 30, 60})
	}
}

// TestMany has many rows, and one with many changes: neither takes long.
func TestMany(t *testing.T) {
	const n = 50000
	var heights []int
	for i := range 1 << 10 {
		height := 1
		for k := i + 1; k%2 == 0; k /= 2 {
			height++
		}
		heights = append(heights, height)
	}
	begin := time.Now()
	m := newStore(t, table(), heights...)
	for i := range int64(n) {
		if e := m.Apply(i, api.Op{Kind: api.OInsert, Row: row(i*7919%n, "x")}); e != api.OK {
			t.Fatalf("Apply = %d", e)
		}
	}
	for i := range int64(n) {
		if e := m.Apply(n+i, api.Op{Kind: api.OUpdate, Row: row(5, "")[:1], Sets: to(strconv.Itoa(int(i)))}); e != api.OK {
			t.Fatalf("Apply = %d", e)
		}
	}
	if m.Len() != n || m.Changes() != 2*n {
		t.Errorf("Len %d, Changes %d", m.Len(), m.Changes())
	}
	key := keyOf(t, table(), number(5))
	if got, ok := m.At(key, n+17); !ok || !sameRow(got, row(5, "17")) {
		t.Errorf("At = %v, %t", got, ok)
	}
	hs := m.Histories()
	if e := memstore.Chain(table(), hs[5].Key, hs[5].Changes...); e != api.OK || len(hs) != n || len(hs[5].Changes) != n+1 {
		t.Errorf("Chain = %d", e)
	}
	if found, _ := m.Scan(key, nil, n-1); len(found) != n-5 {
		t.Errorf("Scan tells %d", len(found))
	}
	if spent := time.Since(begin); spent > time.Minute {
		t.Errorf("it took %v", spent)
	}
}
