package tablet_test

import (
	"bytes"
	"slices"
	"strings"

	"stoa/api"
	"stoa/cell"
	"stoa/keys"
	"stoa/schema"
	"stoa/vint"
)

const greatest = 1099511627776 // the greatest timestamp

// A batch is what a plain list has of one: its time, and the operations that are done.
type batch struct {
	time int64
	ops  []api.Op
}

// plain is a tablet as the chapter tells it: a list of all batches, a clock of numbers, and locks; it knows of no disk.
type plain struct {
	schema          api.Schema
	now, last, mark int64
	flight          []int64
	done            []batch // those that were committed, in the order of their commits
	locks           []string
	closed          bool
	maybe           []batch // those that were logged, perhaps, and not committed
	marks           []int64 // the mark may be at one of these behind a crash
}

func newPlain(s api.Schema) *plain {
	return &plain{schema: s, now: 1, last: -1}
}

func (p *plain) next() int64 {
	return max(p.now, p.last+1)
}

func (p *plain) clean() int64 {
	if len(p.flight) > 0 {
		return slices.Min(p.flight) - 1
	}
	return p.next() - 1
}

func (p *plain) tick(n int64) {
	if n > 0 {
		p.now = min(p.now+min(n, greatest+1), greatest+1)
	}
}

// stamp gives a timestamp out.
func (p *plain) stamp() (int64, api.Errno) {
	t := p.next()
	if t > greatest {
		return 0, 170
	}
	p.last = t
	p.flight = append(p.flight, t)
	return t, 0
}

func (p *plain) land(t int64) {
	p.flight = slices.DeleteFunc(p.flight, func(u int64) bool { return u == t })
}

// keyText is a row's key, as a text that no other key has.
func (p *plain) keyText(row []api.Cell) string {
	var b strings.Builder
	for _, c := range row[:p.schema.Keys] {
		b.WriteString(cellText(c))
		b.WriteByte(';')
	}
	return b.String()
}

// compareKeys compares the first n cells of two rows.
func (p *plain) compareKeys(a, b []api.Cell, n int) int {
	for i := range n {
		order, e := cell.Compare(p.schema.Cols[i].Kind, a[i], b[i])
		if e != 0 {
			panic("no key")
		}
		if order != 0 {
			return order
		}
	}
	return 0
}

// rows are the rows as they are at a time, by their keys' texts.
func (p *plain) rows(t int64) map[string][]api.Cell {
	all := map[string][]api.Cell{}
	sorted := slices.Clone(p.done)
	slices.SortFunc(sorted, func(a, b batch) int { return int(a.time - b.time) })
	for _, b := range sorted {
		if b.time > t {
			break
		}
		for _, op := range b.ops {
			key := p.keyText(op.Row)
			switch op.Kind {
			case 1:
				all[key] = op.Row
			case 2:
				row := slices.Clone(all[key])
				for _, set := range op.Sets {
					row[set.Col] = set.Cell
				}
				all[key] = row
			case 3:
				delete(all, key)
			}
		}
	}
	return all
}

// scanned are the rows that a scan tells in all.
func (p *plain) scanned(spec api.Spec, t int64) [][]api.Cell {
	var rows [][]api.Cell
	for _, row := range p.rows(t) {
		if p.compareKeys(row, spec.Low, len(spec.Low)) < 0 {
			continue
		}
		if len(spec.High) > 0 && p.compareKeys(row, spec.High, len(spec.High)) >= 0 {
			continue
		}
		rows = append(rows, row)
	}
	slices.SortFunc(rows, func(a, b []api.Cell) int { return p.compareKeys(a, b, p.schema.Keys) })
	var told [][]api.Cell
	for _, row := range rows {
		all := true
		for _, pred := range spec.Preds {
			all = all && p.holds(row[pred.Col], pred)
		}
		if !all {
			continue
		}
		cells := []api.Cell{}
		for _, col := range spec.Cols {
			cells = append(cells, row[col])
		}
		told = append(told, cells)
	}
	return told
}

func (p *plain) holds(c api.Cell, pred api.Pred) bool {
	if pred.Kind == 5 || pred.Kind == 6 {
		return c.Null == (pred.Kind == 5)
	}
	if c.Null {
		return false
	}
	order := 0
	if len(c.B) > 0 || len(pred.Cell.B) > 0 {
		order = bytes.Compare(c.B, pred.Cell.B)
	} else if c.Int < pred.Cell.Int {
		order = -1
	} else if c.Int > pred.Cell.Int {
		order = 1
	}
	return map[int]bool{1: order == 0, 2: order != 0, 3: order < 0, 4: order >= 0}[pred.Kind]
}

// isSpec tells whether a specification is one.
func (p *plain) isSpec(spec api.Spec) bool {
	ok := spec.Time >= -1 && spec.Time <= greatest && spec.Batch >= 1 && len(spec.Preds) <= 8 && len(spec.Cols) <= 12
	if _, _, e := keys.Bounds(p.schema, spec.Low, spec.High); e != 0 {
		ok = false
	}
	for _, col := range spec.Cols {
		ok = ok && col >= 0 && col < len(p.schema.Cols)
	}
	for _, pred := range spec.Preds {
		if pred.Col < 0 || pred.Col >= len(p.schema.Cols) || pred.Kind < 1 || pred.Kind > 6 {
			return false
		}
		if pred.Kind >= 5 {
			ok = ok && !pred.Cell.Null && pred.Cell.Int == 0 && len(pred.Cell.B) == 0
		} else {
			ok = ok && cell.Check(p.schema.Cols[pred.Col].Kind, false, pred.Cell) == 0
		}
	}
	return ok
}

// A plainWrite is a batch on its way.
type plainWrite struct {
	p       *plain
	state   string // begun, locked, logged, synced or over
	ops     []api.Op
	time    int64
	results []int
}

func (p *plain) begin(ops []api.Op) (*plainWrite, api.Errno) {
	if p.closed {
		return nil, 253
	}
	if len(ops) == 0 || len(ops) > 64 {
		return nil, 251
	}
	var ahead []string
	for _, op := range ops {
		if e := schema.Op(p.schema, op); e != 0 {
			return nil, e
		}
		key, _ := keys.Encode(p.schema, op.Row[:p.schema.Keys])
		if len(key) > 200 {
			return nil, 4
		}
		text := p.keyText(op.Row)
		if slices.Contains(ahead, text) {
			return nil, 250
		}
		ahead = append(ahead, text)
	}
	return &plainWrite{p: p, state: "begun", ops: ops}, 0
}

func (w *plainWrite) lock() bool {
	if w.state != "begun" {
		return false
	}
	for _, op := range w.ops {
		if slices.Contains(w.p.locks, w.p.keyText(op.Row)) {
			return false
		}
	}
	for _, op := range w.ops {
		w.p.locks = append(w.p.locks, w.p.keyText(op.Row))
	}
	w.state = "locked"
	return true
}

func (w *plainWrite) end() {
	w.state = "over"
	for _, op := range w.ops {
		key := w.p.keyText(op.Row)
		w.p.locks = slices.DeleteFunc(w.p.locks, func(k string) bool { return k == key })
	}
}

// batch is what is done of it.
func (w *plainWrite) batch() batch {
	b := batch{time: w.time}
	for i, op := range w.ops {
		if w.results[i] == 0 {
			b.ops = append(b.ops, op)
		}
	}
	return b
}

// log is what Log answers, if the log refuses as it is told.
func (w *plainWrite) log(refused bool) api.Errno {
	p := w.p
	if w.state != "locked" {
		return 261
	}
	if p.closed {
		w.end()
		return 253
	}
	t, e := p.stamp()
	if e != 0 {
		w.end()
		return e
	}
	w.time = t
	now := p.rows(greatest)
	for _, op := range w.ops {
		_, there := now[p.keyText(op.Row)]
		result := 0
		if op.Kind == 1 && there {
			result = 1
		}
		if op.Kind != 1 && !there {
			result = 2
		}
		w.results = append(w.results, result)
	}
	if len(vint.Put(uint64(t)))+len(p.record(w.batch())) > 65536 {
		p.land(t)
		w.end()
		return 4
	}
	p.maybe = append(p.maybe, w.batch())
	if refused {
		p.closed = true
		p.land(t)
		w.end()
		return 160
	}
	w.state = "logged"
	return 0
}

func (w *plainWrite) sync(refused bool) api.Errno {
	p := w.p
	if w.state != "logged" {
		return 261
	}
	if refused || p.closed {
		p.closed = true
		p.land(w.time)
		w.end()
		return 160
	}
	w.state = "synced"
	return 0
}

func (w *plainWrite) commit() (int64, []int, api.Errno) {
	p := w.p
	if w.state != "synced" {
		return 0, nil, 261
	}
	p.done = append(p.done, w.batch())
	p.maybe = slices.DeleteFunc(p.maybe, func(b batch) bool { return b.time == w.time })
	p.land(w.time)
	w.end()
	return w.time, w.results, 0
}

// moveMark is what Mark answers, if the log refuses as it is told.
func (p *plain) moveMark(to int64, refused bool) api.Errno {
	if p.closed {
		return 253
	}
	if to < p.mark || to > p.clean() {
		return 1
	}
	t, e := p.stamp()
	if e != 0 {
		return e
	}
	p.land(t)
	if refused {
		p.closed = true
		p.marks = append(p.marks, to)
		return 160
	}
	p.mark = to
	return 0
}

// record is a batch's record in the log.
func (p *plain) record(b batch) []byte {
	r := append([]byte{1}, vint.Put(uint64(len(b.ops)))...)
	for _, op := range b.ops {
		key, _ := keys.Encode(p.schema, op.Row[:p.schema.Keys])
		r = append(r, byte(op.Kind))
		r = append(r, vint.Put(uint64(len(key)))...)
		r = append(r, key...)
		switch op.Kind {
		case 1:
			row, _ := schema.PutRow(p.schema, op.Row)
			r = append(r, row...)
		case 2:
			sets, _ := schema.PutSets(p.schema, op.Sets)
			r = append(r, sets...)
		}
	}
	return r
}

// A plainScan is a scan on its way.
type plainScan struct {
	p      *plain
	spec   api.Spec
	time   int64
	told   int
	closed bool
}

func (p *plain) scan(spec api.Spec) (*plainScan, api.Errno) {
	if !p.isSpec(spec) {
		return nil, 252
	}
	t := spec.Time
	if t == -1 {
		t = max(p.last, p.mark)
	}
	if t < p.mark {
		return nil, 171
	}
	return &plainScan{p: p, spec: spec, time: t}, 0
}

func (x *plainScan) ready() bool {
	return !x.closed && x.time <= x.p.clean()
}

func (x *plainScan) next() ([][]api.Cell, bool, api.Errno) {
	if !x.ready() {
		return nil, false, 261
	}
	left := x.p.scanned(x.spec, x.time)[x.told:]
	n := min(x.spec.Batch, len(left))
	x.told += n
	x.closed = n == len(left)
	return left[:n], x.closed, 0
}

// crash forgets all that isn't on the disk: what was in flight may be there, or not.
func (p *plain) crash() {
	p.flight, p.locks, p.closed = nil, nil, false
	p.now = 1
}
