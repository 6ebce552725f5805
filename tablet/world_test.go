package tablet_test

import (
	"bytes"
	"fmt"
	"math/rand/v2"
	"slices"
	"strconv"
	"strings"
	"testing"

	"stoa/api"
	"stoa/disk"
	"stoa/tablet"
)

func cellText(c api.Cell) string {
	if c.Null {
		return "null"
	}
	if c.B != nil {
		return fmt.Sprintf("%q", c.B)
	}
	return strconv.FormatInt(c.Int, 10)
}

func rowsText(rows [][]api.Cell) string {
	var b strings.Builder
	for _, row := range rows {
		b.WriteByte('(')
		for _, c := range row {
			fmt.Fprintf(&b, "%v %d %q,", c.Null, c.Int, c.B)
		}
		b.WriteByte(')')
	}
	return b.String()
}

func num(n int64) api.Cell { return api.Cell{Int: n} }

func text(s string) api.Cell { return api.Cell{B: []byte(s)} }

func null() api.Cell { return api.Cell{Null: true} }

// small is a schema of an id and a name, as in the examples.
func small() api.Schema {
	return api.Schema{Cols: []api.Column{{Name: "id", Kind: api.KI32}, {Name: "name", Kind: api.KStr}}, Keys: 1}
}

// wide is a schema of all kinds, with a key of two columns.
func wide() api.Schema {
	return api.Schema{Cols: []api.Column{
		{Name: "a", Kind: api.KI8}, {Name: "b", Kind: api.KBytes},
		{Name: "c", Kind: api.KI16, Null: true}, {Name: "d", Kind: api.KI64}, {Name: "e", Kind: api.KU16, Null: true},
		{Name: "f", Kind: api.KBool}, {Name: "g", Kind: api.KStr, Null: true}, {Name: "h", Kind: api.KBytes, Null: true},
	}, Keys: 2}
}

func confOf(s api.Schema) api.Conf {
	return api.Conf{Schema: s, Seg: 100, Block: 2, Heights: []int{2, 1}}
}

func insert(id int64, name string) api.Op {
	return api.Op{Kind: api.OInsert, Row: []api.Cell{num(id), text(name)}}
}

func update(id int64, name string) api.Op {
	return api.Op{Kind: api.OUpdate, Row: []api.Cell{num(id)}, Sets: []api.Set{{Col: 1, Cell: text(name)}}}
}

func remove(id int64) api.Op {
	return api.Op{Kind: api.ODelete, Row: []api.Cell{num(id)}}
}

// A write is a batch on its way, and the plain one.
type write struct {
	real  *tablet.Write
	plain *plainWrite
}

// A scan is a scan on its way, and the plain one.
type scan struct {
	real  *tablet.Scan
	plain *plainScan
}

// world is a tablet on a disk, and the plain one that it is held against.
type world struct {
	t      *testing.T
	disk   *disk.Disk
	conf   api.Conf
	real   *tablet.Tablet
	plain  *plain
	writes []*write
	scans  []*scan
	tasks  []*tablet.Task
	fails  bool      // the disk may refuse steps
	failed api.Errno // what the last task's step answered that was refused
	story  []string  // what was done
}

func newWorld(t *testing.T, conf api.Conf) *world {
	t.Helper()
	x := &world{t: t, disk: disk.New(api.MaxRoom), conf: conf, plain: newPlain(conf.Schema)}
	real, e := x.open()
	if e != 0 {
		t.Fatalf("Open of nothing = %d", e)
	}
	x.real = real
	return x
}

// open opens what lies on the disk. What is handed in is written over behind the call, here as everywhere, and so is what is answered.
func (x *world) open() (*tablet.Tablet, api.Errno) {
	x.t.Helper()
	given := copyConf(x.conf)
	real, e := tablet.Open(x.disk, given)
	if !isConf(given, x.conf) {
		x.fail("Open has changed the configuration")
	}
	spoilConf(given)
	return real, e
}

// note keeps what is done, to be told where it goes wrong.
func (x *world) note(format string, args ...any) {
	x.story = append(x.story, fmt.Sprintf(format, args...))
}

func (x *world) fail(format string, args ...any) {
	x.t.Helper()
	x.t.Fatalf("%s: %s", strings.Join(x.story, "; "), fmt.Sprintf(format, args...))
}

// same fails unless two answers are the same.
func same[T comparable](x *world, what string, got, want T) {
	if got != want {
		x.t.Helper()
		x.fail("%s = %v, not %v", what, got, want)
	}
}

// look holds what the tablet tells at any time against the plain one.
func (x *world) look() {
	x.t.Helper()
	same(x, "Last", x.real.Last(), x.plain.last)
	same(x, "Clean", x.real.Clean(), x.plain.clean())
	same(x, "Floor", x.real.Floor(), x.plain.mark)
	same(x, "Closed", x.real.Closed(), x.plain.closed)
}

func opsText(ops []api.Op) string {
	var b strings.Builder
	for _, op := range ops {
		fmt.Fprintf(&b, "%d:%s", op.Kind, rowsText([][]api.Cell{op.Row}))
		for _, set := range op.Sets {
			fmt.Fprintf(&b, "%d=%s", set.Col, cellText(set.Cell))
		}
		b.WriteByte(' ')
	}
	return b.String()
}

func (x *world) begin(ops ...api.Op) *write {
	x.t.Helper()
	x.note("Begin %s", opsText(ops))
	plain, want := x.plain.begin(ops)
	given := copyOps(ops)
	real, e := x.real.Begin(given)
	if !areOps(given, ops) {
		x.fail("Begin has changed the operations")
	}
	spoilOps(given)
	same(x, "Begin", e, want)
	if (real == nil) != (e != 0) {
		x.fail("a batch beside %d", e)
	}
	if e != 0 {
		return nil
	}
	w := &write{real: real, plain: plain}
	x.writes = append(x.writes, w)
	return w
}

func (x *world) lock(w *write) bool {
	x.t.Helper()
	x.note("Lock")
	ok := w.real.Lock()
	same(x, "Lock", ok, w.plain.lock())
	return ok
}

// refused tells that an answer can be only because of the disk.
func (x *world) refused(e api.Errno) bool {
	return x.fails && e == 160
}

func (x *world) log(w *write) api.Errno {
	x.t.Helper()
	x.note("Log")
	e := w.real.Log()
	same(x, "Log", e, w.plain.log(x.refused(e)))
	x.look()
	return e
}

func (x *world) sync(w *write) api.Errno {
	x.t.Helper()
	x.note("Sync")
	e := w.real.Sync()
	same(x, "Sync", e, w.plain.sync(x.refused(e)))
	x.look()
	return e
}

func (x *world) commit(w *write) api.Errno {
	x.t.Helper()
	x.note("Commit")
	at, results, e := w.real.Commit()
	wantAt, wantResults, want := w.plain.commit()
	same(x, "Commit", e, want)
	same(x, "Commit's time", at, wantAt)
	if !slices.Equal(results, wantResults) {
		x.fail("Commit's results %v, not %v", results, wantResults)
	}
	spoil(results, -77)
	x.look()
	return e
}

// goOn does a batch's next step; false if it is over.
func (x *world) goOn(w *write) bool {
	x.t.Helper()
	switch w.plain.state {
	case "begun":
		x.lock(w)
	case "locked":
		x.log(w)
	case "logged":
		x.sync(w)
	case "synced":
		x.commit(w)
	}
	return w.plain.state != "over"
}

// write does a batch all the way, unless it is refused.
func (x *world) write(ops ...api.Op) {
	x.t.Helper()
	w := x.begin(ops...)
	for range 4 {
		if w == nil || !x.goOn(w) {
			return
		}
	}
}

func (x *world) mark(to int64) api.Errno {
	x.t.Helper()
	x.note("Mark %d", to)
	e := x.real.Mark(to)
	same(x, "Mark", e, x.plain.moveMark(to, x.refused(e)))
	x.look()
	return e
}

func (x *world) tick(n int64) {
	x.t.Helper()
	x.note("Tick %d", n)
	x.real.Tick(n)
	x.plain.tick(n)
	x.look()
}

func (x *world) scan(spec api.Spec) *scan {
	x.t.Helper()
	x.note("Scan %+v", spec)
	plain, want := x.plain.scan(spec)
	given := copySpec(spec)
	real, e := x.real.Scan(given)
	if !isSpecOf(given, spec) {
		x.fail("Scan has changed the specification")
	}
	spoilSpec(given)
	same(x, "Scan", e, want)
	if (real == nil) != (e != 0) {
		x.fail("a scan beside %d", e)
	}
	if e != 0 {
		return nil
	}
	s := &scan{real: real, plain: plain}
	x.scans = append(x.scans, s)
	same(x, "Time", real.Time(), plain.time)
	return s
}

func (x *world) next(s *scan) bool {
	x.t.Helper()
	x.note("Next")
	same(x, "Ready", s.real.Ready(), s.plain.ready())
	rows, last, e := s.real.Next()
	wantRows, wantLast, want := s.plain.next()
	same(x, "Next", e, want)
	same(x, "last", last, wantLast)
	same(x, "rows", rowsText(rows), rowsText(wantRows))
	if !areApart(areasOfRows(rows)) {
		x.fail("two lists share memory")
	}
	spoilRows(rows)
	same(x, "Ready behind it", s.real.Ready(), s.plain.ready())
	same(x, "Time", s.real.Time(), s.plain.time)
	return e == 0 && !last
}

func (x *world) close(s *scan) {
	x.note("Close")
	s.real.Close()
	s.plain.closed = true
	same(x, "Ready behind Close", s.real.Ready(), false)
}

func (x *world) task(kind, arg int) *tablet.Task {
	x.t.Helper()
	x.note("Task %d %d", kind, arg)
	k, e := x.real.Task(kind, arg)
	want := api.OK
	if kind < 1 || kind > 5 {
		want = 1
	} else if x.plain.closed {
		want = 253
	}
	same(x, "Task", e, want)
	if (k == nil) != (e != 0) {
		x.fail("a task beside %d", e)
	}
	if e == 0 {
		x.tasks = append(x.tasks, k)
	}
	return k
}

// step does a task's step; true if it is over.
func (x *world) step(k *tablet.Task) bool {
	x.t.Helper()
	x.note("Step")
	sets, fresh := x.real.Sets(), x.real.Fresh()
	over, e := k.Step()
	if e == 0 && !over {
		x.look()
		return false
	}
	if e != 0 {
		if !x.fails {
			x.fail("Step = %d", e)
		}
		x.failed = e
		same(x, "over beside an error", over, false)
		same(x, "Sets behind an error", x.real.Sets(), sets)
		same(x, "Fresh behind an error", x.real.Fresh(), fresh)
		// The log may have been found dead.
		x.plain.closed = x.real.Closed()
	}
	_, again := k.Step()
	same(x, "Step of what is over", again, 261)
	x.tasks = slices.DeleteFunc(x.tasks, func(o *tablet.Task) bool { return o == k })
	x.look()
	return true
}

// work does a task all the way.
func (x *world) work(kind, arg int) {
	x.t.Helper()
	k := x.task(kind, arg)
	for i := 0; k != nil && !x.step(k); i++ {
		if i == 64 {
			x.fail("a task without an end")
		}
	}
}

// times are those at which something may be another thing than ahead of it, from the mark on.
func (x *world) times() []int64 {
	ts := []int64{x.plain.mark, max(x.plain.last, x.plain.mark)}
	for _, b := range x.plain.done {
		for _, t := range []int64{b.time - 1, b.time} {
			if t >= x.plain.mark {
				ts = append(ts, t)
			}
		}
	}
	slices.Sort(ts)
	return slices.Compact(ts)
}

// snapshot is what the tablet tells of all rows at a time.
func (x *world) snapshot(t int64) (string, api.Errno) {
	spec := api.Spec{Time: t, Batch: 1000, Cols: x.allCols()}
	s, e := x.real.Scan(spec)
	if e != 0 {
		return "", e
	}
	rows, last, e := s.Next()
	if e == 0 && !last {
		x.fail("more rows at %d", t)
	}
	s.Close()
	told := rowsText(rows)
	spoilRows(rows)
	return told, e
}

func (x *world) allCols() []int {
	var cols []int
	for col := range x.conf.Schema.Cols {
		cols = append(cols, col)
	}
	return cols
}

// differs finds a time up to which all is settled at which the tablet doesn't tell what a plain list tells.
func (x *world) differs(p *plain) string {
	for _, t := range x.times() {
		if t > p.clean() {
			continue
		}
		want := rowsText(p.scanned(api.Spec{Cols: x.allCols()}, t))
		got, e := x.snapshot(t)
		if e != 0 || got != want {
			return fmt.Sprintf("at %d: %s, not %s (%d)", t, got, want, e)
		}
	}
	return ""
}

// check holds all snapshots against the plain ones.
func (x *world) check() {
	x.t.Helper()
	if what := x.differs(x.plain); what != "" {
		x.fail("%s", what)
	}
}

// crash lets the power go and come back, and opens the tablet anew.
func (x *world) crash(keeps ...int) {
	x.t.Helper()
	x.note("crash %v", keeps)
	x.disk.On(keeps...)
	x.reopen()
}

// reopen opens the tablet anew; false, if the disk refused that.
func (x *world) reopen() bool {
	x.t.Helper()
	x.note("Open")
	x.writes, x.scans, x.tasks = nil, nil, nil
	real, e := x.open()
	if e != 0 {
		if !x.fails || real != nil {
			x.fail("Open = %d", e)
		}
		return false
	}
	x.real = real
	x.recovered()
	return true
}

// recovered finds which of the batches that weren't answered are there, and holds all else against the plain list.
func (x *world) recovered() {
	x.t.Helper()
	p := x.plain
	p.crash()
	if mark := x.real.Floor(); mark != p.mark && !slices.Contains(p.marks, mark) || mark < p.mark {
		x.fail("the mark is %d", mark)
	} else {
		p.mark, p.marks = mark, nil
	}
	least := p.mark - 1
	for _, b := range p.done {
		least = max(least, b.time)
	}
	if last := x.real.Last(); last < least || last > p.last {
		x.fail("Last is %d, not %d to %d", last, least, p.last)
	}
	p.last = x.real.Last()
	maybe := p.maybe
	p.maybe = nil
	done := p.done
	what := ""
	for some := range 1 << len(maybe) {
		p.done = slices.Clone(done)
		for i, b := range maybe {
			if some&(1<<i) != 0 {
				p.done = append(p.done, b)
			}
		}
		if slices.ContainsFunc(p.done, func(b batch) bool { return b.time > p.last }) {
			continue
		}
		if what = x.differs(p); what == "" {
			x.look()
			return
		}
	}
	x.fail("none of %d: %s", 1<<len(maybe), what)
}

// twice opens the tablet once more: it is to be the same.
func (x *world) twice() {
	x.t.Helper()
	x.note("twice")
	sets, fresh := x.real.Sets(), x.real.Fresh()
	x.crash()
	same(x, "Sets, opened twice", x.real.Sets(), sets)
	same(x, "Fresh, opened twice", x.real.Fresh(), fresh)
}

// any is a cell of a kind.
func anyCell(r *rand.Rand, col api.Column) api.Cell {
	if col.Null && r.IntN(3) == 0 {
		return null()
	}
	switch col.Kind {
	case api.KStr, api.KBytes:
		b := make([]byte, r.IntN(3))
		for i := range b {
			b[i] = byte(r.IntN(2))
			if col.Kind == api.KStr {
				b[i] += 'a'
			}
		}
		return api.Cell{B: b}
	case api.KBool:
		return num(int64(r.IntN(2)))
	case api.KU16:
		return num(int64(r.IntN(3)))
	}
	return num(int64(r.IntN(5) - 2))
}

func anyRow(r *rand.Rand, s api.Schema) []api.Cell {
	var row []api.Cell
	for _, col := range s.Cols {
		row = append(row, anyCell(r, col))
	}
	return row
}

func anyOp(r *rand.Rand, s api.Schema) api.Op {
	row := anyRow(r, s)
	switch r.IntN(5) {
	case 0, 1:
		return api.Op{Kind: api.OInsert, Row: row}
	case 2:
		return api.Op{Kind: api.ODelete, Row: row[:s.Keys]}
	}
	op := api.Op{Kind: api.OUpdate, Row: row[:s.Keys]}
	for col := s.Keys; col < len(s.Cols); col++ {
		if r.IntN(2) == 0 {
			op.Sets = append(op.Sets, api.Set{Col: col, Cell: anyCell(r, s.Cols[col])})
		}
	}
	if len(op.Sets) == 0 {
		op.Sets = []api.Set{{Col: s.Keys, Cell: anyCell(r, s.Cols[s.Keys])}}
	}
	return op
}

func anyOps(r *rand.Rand, s api.Schema) []api.Op {
	ops := []api.Op{anyOp(r, s)}
	for r.IntN(2) == 0 {
		ops = append(ops, anyOp(r, s))
	}
	return ops
}

func anySpec(r *rand.Rand, x *world) api.Spec {
	s := x.conf.Schema
	spec := api.Spec{Time: -1, Batch: 1 + r.IntN(3)}
	if r.IntN(2) == 0 {
		spec.Time = x.plain.mark + r.Int64N(max(x.plain.next()-x.plain.mark, 1)+1)
	}
	if r.IntN(10) == 0 {
		spec.Time = r.Int64N(x.plain.mark + 1)
	}
	if r.IntN(3) == 0 {
		spec.Low = anyRow(r, s)[:1+r.IntN(s.Keys)]
	}
	if r.IntN(3) == 0 {
		spec.High = anyRow(r, s)[:1+r.IntN(s.Keys)]
	}
	for range r.IntN(4) {
		spec.Cols = append(spec.Cols, r.IntN(len(s.Cols)))
	}
	for r.IntN(3) == 0 {
		col := r.IntN(len(s.Cols))
		pred := api.Pred{Col: col, Kind: 1 + r.IntN(6)}
		if pred.Kind < 5 {
			c := s.Cols[col]
			c.Null = false
			pred.Cell = anyCell(r, c)
		}
		spec.Preds = append(spec.Preds, pred)
	}
	return spec
}

// act does one call of any kind.
func (x *world) act(r *rand.Rand) {
	x.t.Helper()
	switch n := r.IntN(40); {
	case n < 4 && len(x.writes) < 3:
		x.begin(anyOps(r, x.conf.Schema)...)
	case n < 18 && len(x.writes) > 0:
		i := r.IntN(len(x.writes))
		w := x.writes[i]
		if r.IntN(10) == 0 {
			// In any order: what isn't its next step is refused.
			switch r.IntN(4) {
			case 0:
				x.lock(w)
			case 1:
				x.log(w)
			case 2:
				x.sync(w)
			case 3:
				x.commit(w)
			}
		}
		if !x.goOn(w) {
			x.writes = slices.Delete(x.writes, i, i+1)
		}
	case n < 20:
		x.scan(anySpec(r, x))
	case n < 24 && len(x.scans) > 0:
		i := r.IntN(len(x.scans))
		if !x.next(x.scans[i]) && x.scans[i].plain.closed {
			x.scans = slices.Delete(x.scans, i, i+1)
		}
	case n < 25 && len(x.scans) > 0:
		x.close(x.scans[r.IntN(len(x.scans))])
	case n < 27:
		x.tick(int64(r.IntN(4)))
	case n < 28:
		x.mark(x.plain.mark + int64(r.IntN(4)) - 1)
	case n < 31 && len(x.tasks) < 3:
		kind := 1 + r.IntN(5)
		arg := r.IntN(4)
		if kind == api.TMerge {
			arg = r.IntN(40)
		}
		x.task(kind, arg)
	case len(x.tasks) > 0:
		x.step(x.tasks[r.IntN(len(x.tasks))])
	}
}

// anyKeeps are numbers of what is kept in a crash.
func anyKeeps(r *rand.Rand, d *disk.Disk) []int {
	var keeps []int
	for range r.IntN(len(d.Files()) + 2) {
		n := r.IntN(400)
		if len(keeps) == 0 {
			n = r.IntN(d.Loose() + 1)
		} else if r.IntN(3) == 0 {
			n = 0
		}
		keeps = append(keeps, n)
	}
	return keeps
}

// hasFile tells whether there is a file whose name has a part.
func hasFile(d *disk.Disk, part string) bool {
	return slices.ContainsFunc(d.Files(), func(f api.File) bool { return strings.Contains(f.Name, part) })
}

// dataOf is a file's bytes.
func dataOf(d *disk.Disk, name string) []byte {
	for _, f := range d.Files() {
		if f.Name == name {
			return bytes.Clone(f.Data)
		}
	}
	return nil
}
