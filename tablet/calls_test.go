package tablet_test

import (
	"slices"
	"strings"
	"testing"

	"stoa/api"
	"stoa/disk"
	"stoa/tablet"
)

func TestExamples(t *testing.T) {
	x := newWorld(t, confOf(small()))
	w, e := x.real.Begin([]api.Op{insert(7, "x")})
	if e != 0 || !w.Lock() || w.Log() != 0 || w.Sync() != 0 {
		t.Fatalf("a batch: %d", e)
	}
	if at, rs, e := w.Commit(); at != 1 || !slices.Equal(rs, []int{0}) || e != 0 {
		t.Errorf("Commit = %d, %v, %d", at, rs, e)
	}
	w, _ = x.real.Begin([]api.Op{insert(7, "x")})
	w.Lock()
	w.Log()
	w.Sync()
	if at, rs, e := w.Commit(); at != 2 || !slices.Equal(rs, []int{1}) || e != 0 {
		t.Errorf("Commit = %d, %v, %d", at, rs, e)
	}
	s, e := x.real.Scan(api.Spec{Time: 1, Cols: []int{0, 1}, Batch: 5})
	if e != 0 || s.Time() != 1 {
		t.Fatalf("Scan = %d", e)
	}
	rows, last, e := s.Next()
	if rowsText(rows) != rowsText([][]api.Cell{{num(7), text("x")}}) || !last || e != 0 {
		t.Errorf("Next = %s, %v, %d", rowsText(rows), last, e)
	}
	k, _ := x.real.Task(api.TFlush, 0)
	for over := false; !over; {
		if over, e = k.Step(); e != 0 {
			t.Fatalf("Step = %d", e)
		}
	}
	if x.real.Sets() != 1 || x.real.Fresh() != 0 {
		t.Errorf("%d sets, %d fresh", x.real.Sets(), x.real.Fresh())
	}
	if e := x.real.Mark(2); e != 0 || x.real.Last() != 3 || x.real.Floor() != 2 {
		t.Errorf("Mark = %d, Last %d", e, x.real.Last())
	}
	if _, e := x.real.Scan(api.Spec{Time: 1, Batch: 5}); e != 171 {
		t.Errorf("Scan = %d", e)
	}
}

// TestEighthExample is the eighth of the examples of the whole.
func TestEighthExample(t *testing.T) {
	x := newWorld(t, confOf(small()))
	x.write(insert(7, "x"))
	x.work(api.TFlush, 0)
	x.write(update(7, "y"))
	for range 2 {
		s, e := x.real.Scan(api.Spec{Time: 1, Batch: 1, Cols: []int{1}})
		if e != 0 {
			t.Fatalf("Scan = %d", e)
		}
		if rows, last, e := s.Next(); rowsText(rows) != rowsText([][]api.Cell{{text("x")}}) || !last || e != 0 {
			t.Errorf("at 1: %s, %v, %d", rowsText(rows), last, e)
		}
		x.crash()
	}
}

func TestBeginErrors(t *testing.T) {
	s := small()
	s.Cols[0].Kind = api.KBytes
	x := newWorld(t, confOf(s))
	row := func(key string) api.Op { return api.Op{Kind: 1, Row: []api.Cell{text(key), text("")}} }
	many := func(n int) []api.Op {
		var ops []api.Op
		for i := range n {
			ops = append(ops, row(strings.Repeat("a", i)))
		}
		return ops
	}
	long := row(strings.Repeat("\x00", 100))
	for _, c := range []struct {
		what string
		ops  []api.Op
		want api.Errno
	}{
		{"no operation", nil, 251},
		{"no operation at all", []api.Op{}, 251},
		{"as many as may be", many(64), 0},
		{"too many", many(65), 251},
		{"too many that are none", make([]api.Op, 65), 251},
		{"no kind", []api.Op{{}}, 1},
		{"no row", []api.Op{{Kind: 1}}, 61},
		{"a null key", []api.Op{{Kind: 3, Row: []api.Cell{null()}}}, 51},
		{"no sets", []api.Op{{Kind: 2, Row: []api.Cell{text("a")}}}, 61},
		{"sets of a delete", []api.Op{{Kind: 3, Row: []api.Cell{text("a")}, Sets: []api.Set{{Col: 1}}}}, 61},
		{"a wrong cell", []api.Op{row("a"), {Kind: 1, Row: []api.Cell{text("b"), num(1)}}}, 50},
		{"a key as long as may be", []api.Op{row(strings.Repeat("\x00", 99))}, 0},
		{"a long key", []api.Op{long}, 4},
		{"a key a byte too long", []api.Op{row(strings.Repeat("\x00", 99) + "a")}, 4},
		{"a key twice", []api.Op{row("a"), row("b"), row("a")}, 250},
		{"a long key behind one that is twice", []api.Op{row("a"), row("a"), long}, 250},
		{"a long key ahead of one that is twice", []api.Op{row("a"), long, row("a")}, 4},
		{"a long key twice", []api.Op{long, long}, 4},
		{"a key twice, once wrong", []api.Op{row("a"), {Kind: 2, Row: []api.Cell{text("a")}}}, 61},
		{"a key twice ahead of a wrong one", []api.Op{row("a"), {Kind: 3, Row: []api.Cell{text("a")}}, {}}, 250},
	} {
		w, e := x.real.Begin(c.ops)
		if e != c.want || (w == nil) != (e != 0) {
			t.Errorf("%s: %d, not %d", c.what, e, c.want)
		}
		if _, want := x.plain.begin(c.ops); want != c.want {
			t.Errorf("%s: the plain list tells %d", c.what, want)
		}
	}
	same(x, "Last", x.real.Last(), int64(-1))
}

// A call is one that TestAllOrders does.
type call struct {
	name string
	do   func(x *world)
}

func calls() []call {
	var all []call
	for i, name := range []string{"a", "b"} {
		all = append(all,
			call{name + ".Lock", func(x *world) { x.lock(x.writes[i]) }},
			call{name + ".Log", func(x *world) { x.log(x.writes[i]) }},
			call{name + ".Sync", func(x *world) { x.sync(x.writes[i]) }},
			call{name + ".Commit", func(x *world) { x.commit(x.writes[i]) }})
	}
	return append(all,
		call{"on", func(x *world) {
			if w := x.writes[0]; w.plain.state != "over" {
				x.goOn(w)
			}
		}},
		call{"Next", func(x *world) { x.next(x.scans[0]) }},
		call{"Scan", func(x *world) {
			if s := x.scan(api.Spec{Time: -1, Batch: 1, Cols: []int{0, 1}}); s != nil {
				x.next(s)
				x.next(s)
			}
		}},
		call{"Mark", func(x *world) { x.mark(x.plain.mark + 1) }},
		call{"Tick", func(x *world) { x.tick(2) }},
		call{"flush", func(x *world) {
			k := x.task(api.TFlush, 0)
			for i := 0; k != nil && i < 20 && !x.step(k); i++ {
			}
		}},
	)
}

// TestAllOrders does all short orders of calls of two batches that meet in a row, with all else between them.
func TestAllOrders(t *testing.T) {
	all := calls()
	n := len(all)
	for order := range n * n * n * n {
		x := newWorld(t, confOf(small()))
		x.write(insert(1, "a"))
		x.begin(update(1, "b"), insert(2, "c"))
		x.begin(remove(1), insert(3, "d"))
		x.writes = x.writes[1:]
		x.scan(api.Spec{Time: 2, Batch: 1, Cols: []int{0, 1}})
		// The first batch has its locks in one half, and is logged in a quarter.
		for range order % 4 {
			x.goOn(x.writes[0])
		}
		for range 4 {
			all[order%n].do(x)
			order /= n
		}
		x.check()
	}
}

func TestPhases(t *testing.T) {
	x := newWorld(t, confOf(small()))
	a := x.begin(insert(1, "a"), insert(2, "b"))
	b := x.begin(insert(3, "c"), insert(2, "d"))
	c := x.begin(insert(3, "e"))
	for _, w := range []*write{a, b, c} {
		x.log(w)
		x.sync(w)
		x.commit(w)
	}
	if !x.lock(a) || x.lock(a) || x.lock(b) || !x.lock(c) || x.lock(b) {
		t.Error("Lock")
	}
	x.sync(a)
	x.commit(a)
	if x.log(c) != 0 || x.log(a) != 0 || x.log(a) != 261 || x.lock(a) || x.lock(b) {
		t.Error("Log")
	}
	same(x, "Last", x.real.Last(), 2)
	same(x, "Clean", x.real.Clean(), 0)
	x.commit(a)
	if x.sync(a) != 0 || x.sync(a) != 261 || x.log(a) != 261 || x.commit(a) != 0 || x.commit(a) != 261 || x.sync(a) != 261 || x.log(a) != 261 || x.lock(a) {
		t.Error("Commit")
	}
	same(x, "Clean", x.real.Clean(), 0)
	if x.lock(b) {
		t.Error("a lock that is held")
	}
	for x.goOn(c) {
	}
	for x.goOn(b) {
	}
	same(x, "Last", x.real.Last(), 3)
	x.check()
}

// TestLatest goes to the end of all timestamps.
func TestLatest(t *testing.T) {
	x := newWorld(t, confOf(small()))
	x.tick(greatest - 2)
	x.write(insert(1, "a"))
	x.write(insert(2, "b"))
	x.write(remove(1))
	a := x.begin(insert(3, "c"))
	x.lock(a)
	if e := x.log(a); e != 170 {
		t.Errorf("Log behind the last timestamp = %d", e)
	}
	x.log(a)
	if e := x.mark(x.plain.mark); e != 170 {
		t.Errorf("Mark behind the last timestamp = %d", e)
	}
	// The row isn't locked any more.
	if b := x.begin(insert(3, "c")); !x.lock(b) {
		t.Error("a lock that was left")
	}
	x.scan(api.Spec{Time: greatest, Batch: 1})
	x.scan(api.Spec{Time: greatest + 1, Batch: 1})
	x.tick(1 << 62)
	x.work(api.TFlush, 0)
	x.work(api.TMajor, 0)
	x.work(api.TLog, 0)
	x.check()
	x.twice()
	x.write(insert(4, "d"))
}

// TestLongRecord has batches that the log can just take, and can't.
func TestLongRecord(t *testing.T) {
	s := small()
	for i := range 6 {
		s.Cols = append(s.Cols, api.Column{Name: "more" + string(rune('a'+i)), Kind: api.KBytes})
	}
	x := newWorld(t, confOf(s))
	// With a time of one byte the longest body has 65536.
	ofLength := func(n int) []api.Op {
		var ops []api.Op
		for id := range int64(64) {
			row := []api.Cell{num(id)}
			for range 7 {
				row = append(row, text(strings.Repeat("x", 138)))
			}
			ops = append(ops, api.Op{Kind: 1, Row: row})
		}
		n -= len(x.plain.record(batch{time: 1, ops: ops}))
		for i := 0; n > 0; i++ {
			some := min(n, 60)
			ops[i].Row[7] = text(strings.Repeat("x", 138+some))
			n -= some
		}
		return ops
	}
	a := x.begin(ofLength(65536)...)
	x.lock(a)
	if e := x.log(a); e != 4 {
		t.Errorf("Log of a long record = %d", e)
	}
	x.log(a)
	x.sync(a)
	x.commit(a)
	same(x, "Last", x.real.Last(), 1)
	same(x, "Clean", x.real.Clean(), 1)
	x.check()
	x.write(ofLength(65535)...)
	same(x, "Clean", x.real.Clean(), 2)
	same(x, "Fresh", x.real.Fresh(), 64)
	x.crash()
	same(x, "Fresh", x.real.Fresh(), 64)
}

func TestScanErrors(t *testing.T) {
	x := newWorld(t, confOf(wide()))
	x.tick(10)
	x.write(api.Op{Kind: 1, Row: []api.Cell{num(1), text("k"), null(), num(2), null(), num(1), text("g"), null()}})
	x.mark(5)
	preds := func(n int) []api.Pred { return slices.Repeat([]api.Pred{{Col: 0, Kind: 1}}, n) }
	pred := func(col, kind int, c api.Cell) []api.Pred {
		return []api.Pred{{Col: 0, Kind: 1}, {Col: col, Kind: kind, Cell: c}}
	}
	for _, c := range []struct {
		what string
		spec api.Spec
		want api.Errno
	}{
		{"a scan", api.Spec{Time: 5, Batch: 1}, 0},
		{"the newest", api.Spec{Time: -1, Batch: 1}, 0},
		{"the latest", api.Spec{Time: greatest, Batch: 1 << 62}, 0},
		{"ahead of all", api.Spec{Time: -2, Batch: 1}, 252},
		{"behind all", api.Spec{Time: greatest + 1, Batch: 1}, 252},
		{"an old one", api.Spec{Time: 4, Batch: 1}, 171},
		{"the oldest", api.Spec{Time: 0, Batch: 1}, 171},
		{"an old one, and wrong", api.Spec{Time: 4}, 252},
		{"no rows", api.Spec{Time: 5}, 252},
		{"fewer than none", api.Spec{Time: 5, Batch: -1}, 252},
		{"bounds", api.Spec{Time: 5, Batch: 1, Low: []api.Cell{num(1)}, High: []api.Cell{num(1), text("z")}}, 0},
		{"a long bound", api.Spec{Time: 5, Batch: 1, Low: []api.Cell{num(1), text("k"), num(1)}}, 252},
		{"a long high bound", api.Spec{Time: 5, Batch: 1, High: []api.Cell{num(1), text("k"), num(1)}}, 252},
		{"a wrong bound", api.Spec{Time: 5, Batch: 1, Low: []api.Cell{num(128)}}, 252},
		{"a wrong high bound", api.Spec{Time: 5, Batch: 1, High: []api.Cell{null()}}, 252},
		{"bounds the other way round", api.Spec{Time: 5, Batch: 1, Low: []api.Cell{num(2)}, High: []api.Cell{num(1)}}, 0},
		{"all columns", api.Spec{Time: 5, Batch: 1, Cols: []int{7, 6, 5, 4, 3, 2, 1, 0, 0, 7, 6, 5}}, 0},
		{"too many columns", api.Spec{Time: 5, Batch: 1, Cols: make([]int, 13)}, 252},
		{"a column that there isn't", api.Spec{Time: 5, Batch: 1, Cols: []int{0, 8}}, 252},
		{"a column below all", api.Spec{Time: 5, Batch: 1, Cols: []int{-1}}, 252},
		{"predicates", api.Spec{Time: 5, Batch: 1, Preds: preds(8)}, 0},
		{"too many predicates", api.Spec{Time: 5, Batch: 1, Preds: preds(9)}, 252},
		{"a predicate's column that there isn't", api.Spec{Time: 5, Batch: 1, Preds: pred(8, 5, api.Cell{})}, 252},
		{"a predicate's column below all", api.Spec{Time: 5, Batch: 1, Preds: pred(-1, 5, api.Cell{})}, 252},
		{"kind 0", api.Spec{Time: 5, Batch: 1, Preds: pred(0, 0, api.Cell{})}, 252},
		{"kind 7", api.Spec{Time: 5, Batch: 1, Preds: pred(0, 7, api.Cell{})}, 252},
		{"kind -1", api.Spec{Time: 5, Batch: 1, Preds: pred(0, -1, api.Cell{})}, 252},
		{"a null", api.Spec{Time: 5, Batch: 1, Preds: pred(2, 1, null())}, 252},
		{"a wide number", api.Spec{Time: 5, Batch: 1, Preds: pred(0, 2, num(-129))}, 252},
		{"the widest number", api.Spec{Time: 5, Batch: 1, Preds: pred(0, 2, num(-128))}, 0},
		{"a text for a number", api.Spec{Time: 5, Batch: 1, Preds: pred(3, 3, text("a"))}, 252},
		{"a number for a text", api.Spec{Time: 5, Batch: 1, Preds: pred(6, 4, num(1))}, 252},
		{"a byte 0 in a text", api.Spec{Time: 5, Batch: 1, Preds: pred(6, 4, text("\x00"))}, 252},
		{"a byte 0 in bytes", api.Spec{Time: 5, Batch: 1, Preds: pred(7, 4, text("\x00"))}, 0},
		{"a bool of 2", api.Spec{Time: 5, Batch: 1, Preds: pred(5, 1, num(2))}, 252},
		{"null of a key", api.Spec{Time: 5, Batch: 1, Preds: pred(0, 5, api.Cell{})}, 0},
		{"null with no bytes", api.Spec{Time: 5, Batch: 1, Preds: pred(0, 5, text(""))}, 0},
		{"null with a null", api.Spec{Time: 5, Batch: 1, Preds: pred(2, 5, null())}, 252},
		{"has with a null", api.Spec{Time: 5, Batch: 1, Preds: pred(2, 6, null())}, 252},
		{"null with a number", api.Spec{Time: 5, Batch: 1, Preds: pred(2, 5, num(1))}, 252},
		{"has with a text", api.Spec{Time: 5, Batch: 1, Preds: pred(6, 6, text("a"))}, 252},
		{"has", api.Spec{Time: 5, Batch: 1, Preds: pred(6, 6, api.Cell{})}, 0},
	} {
		if s := x.scan(c.spec); (s != nil) != (c.want == 0) {
			t.Errorf("%s", c.what)
		}
		if _, e := x.real.Scan(c.spec); e != c.want {
			t.Errorf("%s: %d, not %d", c.what, e, c.want)
		}
	}
}

// TestPredicates holds all predicates on all cells against the plain ones, on rows in memory and in a rowset.
func TestPredicates(t *testing.T) {
	x := newWorld(t, confOf(wide()))
	texts := []string{"", "a", "ab", "b", "\x01"}
	for i := range 20 {
		row := []api.Cell{num(int64(i%5 - 2)), text(texts[i/4]), num(int64(i - 10)), num(int64(i-10) << 40), num(int64(i * 3000)), num(int64(i % 2)), text(texts[i%5]), text(texts[i*3%5])}
		for col, c := range wide().Cols {
			if c.Null && (i+col)%4 == 0 {
				row[col] = null()
			}
		}
		x.write(api.Op{Kind: 1, Row: row})
		if i == 12 {
			x.work(api.TFlush, 0)
		}
	}
	var cells []api.Cell
	for _, row := range x.plain.rows(greatest) {
		cells = append(cells, row...)
	}
	asked := 0
	for col := range wide().Cols {
		for kind := 1; kind <= 6; kind++ {
			for _, c := range append(cells, api.Cell{}) {
				spec := api.Spec{Time: -1, Batch: 7, Cols: x.allCols(), Preds: []api.Pred{{Col: col, Kind: kind, Cell: c}}}
				if !x.plain.isSpec(spec) {
					continue
				}
				asked++
				if asked%3 == 0 {
					spec.Preds = append(spec.Preds, api.Pred{Col: 2, Kind: 6}, api.Pred{Col: 0, Kind: 3, Cell: num(1)})
				}
				for s := x.scan(spec); x.next(s); {
				}
				x.story = nil
			}
		}
	}
	if asked < 1000 {
		t.Errorf("only %d were asked", asked)
	}
}

// TestBounds scans between all bounds.
func TestBounds(t *testing.T) {
	x := newWorld(t, confOf(wide()))
	texts := []string{"", "\x00", "\x00\x00", "a", "\xff", "\xff\xff"}
	var bounds [][]api.Cell
	bounds = append(bounds, nil)
	for a := int64(-1); a < 2; a++ {
		bounds = append(bounds, []api.Cell{num(a)})
		for i, b := range texts {
			bounds = append(bounds, []api.Cell{num(a), text(b)})
			if (int(a)+i)%3 != 0 {
				x.write(api.Op{Kind: 1, Row: []api.Cell{num(a), text(b), null(), num(a), null(), num(0), null(), null()}})
			}
		}
		if a != 1 {
			x.work(api.TFlush, 0)
		}
	}
	for _, low := range bounds {
		for _, high := range bounds {
			s := x.scan(api.Spec{Time: -1, Low: low, High: high, Batch: 4, Cols: []int{1, 0, 1}})
			for x.next(s) {
			}
			x.story = nil
		}
	}
}

// TestBatches scans few rows and many, so and so many at a time.
func TestBatches(t *testing.T) {
	for rows := range int64(6) {
		for n := 1; n < 8; n++ {
			x := newWorld(t, confOf(small()))
			for id := range rows {
				x.write(insert(id, "a"))
				if id == 2 {
					x.work(api.TFlush, 0)
				}
			}
			s := x.scan(api.Spec{Time: -1, Batch: n, Cols: []int{0}})
			asked := 1
			for x.next(s) {
				asked++
			}
			if want := max(1, (int(rows)+n-1)/n); asked != want {
				t.Errorf("%d rows, %d at a time: %d times, not %d", rows, n, asked, want)
			}
			x.next(s)
		}
	}
}

// TestScanGoesOn has scans that go on while all is changed behind their times.
func TestScanGoesOn(t *testing.T) {
	x := newWorld(t, confOf(small()))
	for id := range int64(6) {
		x.write(insert(id, "a"))
	}
	var scans []*scan
	for at := range int64(7) {
		scans = append(scans, x.scan(api.Spec{Time: at, Batch: 1, Cols: []int{0, 1}}))
		scans = append(scans, x.scan(api.Spec{Time: at, Batch: 2, Cols: []int{1}}))
	}
	all := func(n int) {
		for i, s := range scans {
			if i%2 == n%2 || n == 0 {
				x.next(s)
			}
		}
	}
	all(1)
	x.write(update(0, "b"), remove(1), update(2, "c"))
	x.work(api.TFlush, 0)
	all(2)
	x.write(remove(0), insert(1, "d"), update(4, "e"))
	x.mark(x.real.Clean())
	x.work(api.TFlush, 0)
	x.work(api.TDelta, 0)
	all(0)
	for i := range 3 {
		x.work(api.TMajor, i)
	}
	all(0)
	x.work(api.TMerge, 100)
	x.mark(x.real.Clean())
	x.work(api.TLog, 0)
	for range 6 {
		all(0)
	}
	x.work(api.TMajor, 0)
	x.check()
}

// TestFirstAskedLate asks a scan for its first rows only behind all the tasks, which have to keep what it tells.
func TestFirstAskedLate(t *testing.T) {
	for at := range int64(6) {
		x := newWorld(t, confOf(small()))
		x.write(insert(1, "a"), insert(2, "b"))
		x.write(update(1, "c"), remove(2))
		x.work(api.TFlush, 0)
		x.write(insert(2, "d"))
		x.write(remove(1))
		s := x.scan(api.Spec{Time: at, Batch: 9, Cols: []int{0, 1}})
		x.mark(4)
		for _, kind := range []int{api.TFlush, api.TMajor, api.TMajor, api.TFlush} {
			x.work(kind, 0)
		}
		x.work(api.TMerge, 100)
		x.mark(5)
		if at == 5 {
			x.write(remove(2))
		}
		x.next(s)
	}
}

// TestWaits has scans that wait for what is in flight, or for their time to come.
func TestWaits(t *testing.T) {
	x := newWorld(t, confOf(small()))
	a, b := x.begin(insert(1, "a")), x.begin(insert(2, "b"))
	x.lock(a)
	x.lock(b)
	x.log(a)
	x.log(b)
	s := x.scan(api.Spec{Time: -1, Batch: 9, Cols: []int{0}})
	same(x, "Time", s.real.Time(), 2)
	early := x.scan(api.Spec{Time: 0, Batch: 9, Cols: []int{0}})
	first := x.scan(api.Spec{Time: 1, Batch: 9, Cols: []int{0}})
	late := x.scan(api.Spec{Time: 9, Batch: 9, Cols: []int{0}})
	x.sync(b)
	x.commit(b)
	x.next(s)
	x.next(early)
	x.next(first)
	x.sync(a)
	x.next(first)
	x.commit(a)
	x.next(s)
	x.next(first)
	x.next(late)
	x.tick(8)
	x.next(late)
	x.tick(1)
	x.next(late)
	closed := x.scan(api.Spec{Time: 0, Batch: 9})
	x.close(closed)
	x.next(closed)
	x.close(closed)
	x.close(late)
}

// TestPins lets scans go that keep the history, in all ways in which one ends.
func TestPins(t *testing.T) {
	for how := range 3 {
		x := newWorld(t, confOf(small()))
		x.write(insert(1, "a"))
		x.write(update(1, "b"))
		x.write(update(1, "c"))
		s := x.scan(api.Spec{Time: 1, Batch: 1, Cols: []int{1}})
		x.mark(3)
		x.work(api.TFlush, 0)
		undo := func() int { return len(dataOf(x.disk, "set-00000"+string(rune('0'+x.lastSet()))+".undo")) }
		if undo() == 0 {
			t.Error("what a scan may ask for is gone")
		}
		switch how {
		case 0:
			x.next(s)
		case 1:
			x.close(s)
			x.close(s)
		case 2:
			x.close(s)
			x.next(s)
		}
		x.work(api.TMajor, 0)
		if undo() != 0 {
			t.Error("what nobody may ask for is kept")
		}
		x.check()
	}
}

// lastSet is the greatest number of a rowset that lies on the disk.
func (x *world) lastSet() int {
	for n := 9; n > 0; n-- {
		if hasFile(x.disk, "set-00000"+string(rune('0'+n))) {
			return n
		}
	}
	return 0
}

func TestMark(t *testing.T) {
	x := newWorld(t, confOf(small()))
	for _, to := range []int64{-1, -1 << 63, 1, greatest, 1<<63 - 1} {
		if e := x.mark(to); e != 1 {
			t.Errorf("Mark(%d) = %d", to, e)
		}
	}
	same(x, "Last", x.real.Last(), int64(-1))
	x.mark(0)
	same(x, "Last", x.real.Last(), 1)
	x.tick(9)
	x.mark(9)
	same(x, "Last", x.real.Last(), 10)
	x.mark(8)
	x.mark(9)
	a := x.begin(insert(1, "a"))
	x.lock(a)
	x.log(a)
	x.mark(x.real.Clean())
	x.mark(x.real.Clean() + 1)
	x.sync(a)
	x.commit(a)
	x.check()
	x.twice()
	same(x, "Floor", x.real.Floor(), 11)
}

// TestTwo has two tablets, which share nothing.
func TestTwo(t *testing.T) {
	x, y := newWorld(t, confOf(small())), newWorld(t, confOf(small()))
	x.write(insert(1, "a"))
	y.write(insert(1, "b"))
	a, b := x.begin(update(1, "c")), y.begin(remove(1))
	if !x.lock(a) || !y.lock(b) {
		t.Error("Lock")
	}
	x.work(api.TFlush, 0)
	y.tick(5)
	x.check()
	y.check()
}

// TestNoHeights opens with odd numbers, which count as others.
func TestNoHeights(t *testing.T) {
	for _, conf := range []api.Conf{
		{Schema: small()},
		{Schema: small(), Seg: -5, Block: -5, Heights: []int{-5, 0, 99}, Room: -1},
		{Schema: small(), Seg: 1 << 62, Block: 1 << 62},
	} {
		x := newWorld(t, conf)
		rows := 0
		for i := range int64(20) {
			x.write(insert(i, "a"), insert(i*7%5+100, "b"))
			rows++
		}
		x.work(api.TFlush, 0)
		x.write(update(3, "c"))
		x.work(api.TMajor, 0)
		x.check()
		x.twice()
	}
	d := disk.New(10)
	if real, e := tablet.Open(d, confOf(small())); e != 142 || real != nil {
		t.Errorf("Open without room = %d", e)
	}
}
