package tablet

import (
	"bytes"
	"slices"

	"stoa/api"
	"stoa/cell"
	"stoa/keys"
	"stoa/schema"
	"stoa/story"
)

// Scan is a scan on its way.
type Scan struct {
	tablet    *Tablet
	time      int64
	low, high []byte
	preds     []api.Pred
	cols      []int
	batch     int
	begun     bool         // its rows were gathered
	rows      [][]api.Cell // of these, those that are still to be told
	closed    bool
}

// Scan begins a scan.
func (t *Tablet) Scan(spec api.Spec) (*Scan, api.Errno) {
	low, high, err := keys.Bounds(t.schema, spec.Low, spec.High)
	if err != api.OK || !t.isRight(spec) {
		return nil, api.ErrSpec
	}
	at := spec.Time
	if at == -1 {
		at = max(t.clock.Last(), t.clock.Mark())
	}
	if err := t.clock.Pin(at); err != api.OK {
		return nil, err
	}
	x := &Scan{tablet: t, time: at, low: low, high: high, cols: slices.Clone(spec.Cols), batch: spec.Batch}
	for _, p := range spec.Preds {
		p.Cell = story.CopyCells([]api.Cell{p.Cell})[0]
		x.preds = append(x.preds, p)
	}
	return x, api.OK
}

// isRight tells whether a specification is right, but for its bounds.
func (t *Tablet) isRight(spec api.Spec) bool {
	if spec.Time < -1 || spec.Time > api.MaxTime || spec.Batch < 1 {
		return false
	}
	if len(spec.Preds) > api.MaxPreds || len(spec.Cols) > api.MaxCols {
		return false
	}
	return !slices.ContainsFunc(spec.Cols, t.hasNot) && !slices.ContainsFunc(spec.Preds, t.isWrong)
}

// hasNot tells that there is no such column.
func (t *Tablet) hasNot(col int) bool {
	return col < 0 || col >= len(t.schema.Cols)
}

// isWrong tells that a predicate isn't right.
func (t *Tablet) isWrong(p api.Pred) bool {
	if t.hasNot(p.Col) {
		return true
	}
	switch p.Kind {
	case api.PEq, api.PNe, api.PLt, api.PGe:
		return cell.Check(t.schema.Cols[p.Col].Kind, false, p.Cell) != api.OK
	case api.PNull, api.PHas:
		return p.Cell.Null || p.Cell.Int != 0 || len(p.Cell.B) > 0
	}
	return true
}

// Time is the snapshot's time.
func (x *Scan) Time() int64 {
	return x.time
}

// Ready tells whether all is settled up to the snapshot.
func (x *Scan) Ready() bool {
	return !x.closed && x.time <= x.tablet.clock.Clean()
}

// Close ends a scan.
func (x *Scan) Close() {
	if x.closed {
		return
	}
	x.closed = true
	x.rows = nil
	x.tablet.clock.Unpin(x.time)
}

// Next tells the next rows, and whether they are the last.
func (x *Scan) Next() ([][]api.Cell, bool, api.Errno) {
	if !x.Ready() {
		return nil, false, api.ErrIdle
	}
	if !x.begun {
		// All is settled at the snapshot's time, so that the rows stay these, whatever comes.
		rows, err := x.gather()
		if err != api.OK {
			x.Close()
			return nil, false, api.ErrCorrupt
		}
		x.rows, x.begun = rows, true
	}
	n := min(x.batch, len(x.rows))
	told := x.rows[:n:n]
	x.rows = x.rows[n:]
	last := len(x.rows) == 0
	if last {
		x.Close()
	}
	return told, last, api.OK
}

// found is a row that was found under its key.
type found struct {
	key []byte
	row []api.Cell
}

// gather finds all rows that the scan is to tell.
func (x *Scan) gather() ([][]api.Cell, api.Errno) {
	all, err := x.tablet.rowsAt(x.low, x.high, x.time)
	if err != api.OK {
		return nil, err
	}
	var rows [][]api.Cell
	for _, f := range all {
		if !x.wants(f.row) {
			continue
		}
		cells, err := schema.Project(x.tablet.schema, f.row, x.cols)
		if err != api.OK {
			return nil, err
		}
		rows = append(rows, cells)
	}
	return rows, api.OK
}

// rowsAt are the rows within the bounds that are there at a time, in the order of their keys.
func (t *Tablet) rowsAt(low, high []byte, at int64) ([]found, api.Errno) {
	var all []found
	add := func(ks [][]byte, rows [][]api.Cell) {
		for i, key := range ks {
			all = append(all, found{key: key, row: rows[i]})
		}
	}
	add(t.mem.Scan(low, high, at))
	for _, id := range t.spans.Range(low, high) {
		p := t.part(id)
		ks, rows, err := p.Scan(low, high, at, p.redo)
		if err != api.OK {
			return nil, err
		}
		add(ks, rows)
	}
	slices.SortFunc(all, func(a, b found) int { return bytes.Compare(a.key, b.key) })
	return all, api.OK
}

// wants tells whether all predicates hold for a row.
func (x *Scan) wants(row []api.Cell) bool {
	return !slices.ContainsFunc(x.preds, func(p api.Pred) bool { return !holds(x.tablet.schema.Cols[p.Col].Kind, row[p.Col], p) })
}

// holds tells whether a predicate holds for its column's cell.
func holds(kind int, c api.Cell, p api.Pred) bool {
	switch p.Kind {
	case api.PNull:
		return c.Null
	case api.PHas:
		return !c.Null
	}
	order, err := cell.Compare(kind, c, p.Cell)
	if err != api.OK || c.Null {
		return false
	}
	switch p.Kind {
	case api.PEq:
		return order == 0
	case api.PNe:
		return order != 0
	case api.PLt:
		return order < 0
	}
	return order >= 0
}
