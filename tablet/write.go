package tablet

import (
	"slices"

	"stoa/api"
	"stoa/schema"
	"stoa/story"
)

// phase is how far a batch has come.
type phase int

const (
	begun phase = iota
	locked
	logged
	synced
	over
)

// Write is a batch on its way.
type Write struct {
	tablet  *Tablet
	phase   phase
	batch   []operation
	time    int64
	places  []place // where each operation's row lives, behind Log
	results []int
}

// Begin takes a batch.
func (t *Tablet) Begin(ops []api.Op) (*Write, api.Errno) {
	if t.closed {
		return nil, api.ErrClosed
	}
	if len(ops) < 1 || len(ops) > api.MaxOps {
		return nil, api.ErrBatch
	}
	w := &Write{tablet: t}
	ahead := map[string]struct{}{}
	for _, op := range ops {
		key, err := t.check(op)
		if err != api.OK {
			return nil, err
		}
		if _, twice := ahead[string(key)]; twice {
			return nil, api.ErrTwice
		}
		ahead[string(key)] = struct{}{}
		w.batch = append(w.batch, operation{key: key, op: copyOp(op)})
	}
	return w, api.OK
}

// check finds what is wrong with an operation, but for its key being another one's; if nothing is, it answers its key's bytes.
func (t *Tablet) check(op api.Op) ([]byte, api.Errno) {
	if err := schema.Op(t.schema, op); err != api.OK {
		return nil, err
	}
	key, err := t.keyOf(op.Row)
	if err != api.OK {
		return nil, err
	}
	if len(key) > api.MaxCell {
		return nil, api.ErrLong
	}
	return key, api.OK
}

// copyOp copies an operation, and what it brings.
func copyOp(op api.Op) api.Op {
	c := story.Copy(api.Change{Row: op.Row, Sets: op.Sets})
	return api.Op{Kind: op.Kind, Row: c.Row, Sets: c.Sets}
}

// Lock takes the locks of all rows, or none.
func (w *Write) Lock() bool {
	if w.phase != begun {
		return false
	}
	locks := w.tablet.locks
	for _, one := range w.batch {
		if locks[string(one.key)] != nil {
			return false
		}
	}
	for _, one := range w.batch {
		locks[string(one.key)] = w
	}
	w.phase = locked
	return true
}

// end ends the batch: it holds its rows no more.
func (w *Write) end() {
	w.phase = over
	for _, one := range w.batch {
		delete(w.tablet.locks, string(one.key))
	}
}

// Log gives the batch its time and writes it to the log.
func (w *Write) Log() api.Errno {
	if w.phase != locked {
		return api.ErrIdle
	}
	err := w.log()
	if err != api.OK {
		w.end()
		return err
	}
	w.phase = logged
	return api.OK
}

func (w *Write) log() api.Errno {
	t := w.tablet
	if t.closed {
		return api.ErrClosed
	}
	at, err := t.clock.Begin()
	if err != api.OK {
		return err
	}
	w.time = at
	err = w.record()
	if err != api.OK {
		t.clock.Abort(at)
	}
	return err
}

// record settles what each operation comes to, and writes those that are done to the log.
func (w *Write) record() api.Errno {
	t := w.tablet
	var done []operation
	for _, one := range w.batch {
		where, err := t.locate(one.key, w.time)
		if err != api.OK {
			return err
		}
		result := resultOf(one.op.Kind, where != nowhere())
		if result == api.ROk {
			done = append(done, one)
		}
		w.places = append(w.places, where)
		w.results = append(w.results, result)
	}
	b, err := putBatch(t.schema, done)
	if err != api.OK {
		return err
	}
	return t.append(w.time, b)
}

// resultOf is what an operation of a kind comes to on a row that is there, or isn't.
func resultOf(kind int, there bool) int {
	if kind == api.OInsert && there {
		return api.RPresent
	}
	if kind != api.OInsert && !there {
		return api.RMissing
	}
	return api.ROk
}

// Sync makes the batch safe.
func (w *Write) Sync() api.Errno {
	if w.phase != logged {
		return api.ErrIdle
	}
	if err := w.tablet.sync(); err != api.OK {
		w.tablet.clock.Abort(w.time)
		w.end()
		return err
	}
	w.phase = synced
	return api.OK
}

// Commit does the batch, and tells its time and what each operation came to.
func (w *Write) Commit() (int64, []int, api.Errno) {
	if w.phase != synced {
		return 0, nil, api.ErrIdle
	}
	t := w.tablet
	for i, one := range w.batch {
		if w.results[i] == api.ROk {
			// No task has moved the row since Log: they wait for the batch.
			t.change(w.places[i], w.time, one.op)
		}
	}
	t.clock.Commit(w.time)
	w.end()
	return w.time, slices.Clone(w.results), api.OK
}
