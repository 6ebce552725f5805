package tablet

import (
	"slices"

	"stoa/api"
)

// Task is a piece of maintenance on its way.
type Task struct {
	tablet  *Tablet
	pieces  []piece // what is still to be done
	over    bool
	held    []*part  // no other task may work on these meanwhile
	flushes bool     // nor on the rows in memory
	laid    []string // files on the disk that no superblock names yet
}

// piece is one of a task; false if it has to wait, and has done nothing.
type piece func() (bool, api.Errno)

// always is a piece that never waits.
func always(do func() api.Errno) piece {
	return func() (bool, api.Errno) {
		err := do()
		return err == api.OK, err
	}
}

// Task begins a task.
func (t *Tablet) Task(kind, arg int) (*Task, api.Errno) {
	k := &Task{tablet: t}
	switch kind {
	case api.TFlush:
		k.pieces = []piece{k.flush}
	case api.TDelta:
		k.pieces = []piece{func() (bool, api.Errno) { return k.delta(arg) }}
	case api.TMajor:
		k.pieces = []piece{func() (bool, api.Errno) { return k.major(arg) }}
	case api.TMerge:
		k.pieces = []piece{func() (bool, api.Errno) { return k.merge(arg) }}
	case api.TLog:
		k.pieces = []piece{always(k.dropLog)}
	default:
		return nil, api.ErrArg
	}
	if t.closed {
		return nil, api.ErrClosed
	}
	return k, api.OK
}

// Step does the next piece; true: the task is over.
func (k *Task) Step() (bool, api.Errno) {
	if k.over {
		return false, api.ErrIdle
	}
	done, err := k.piece()
	if err != api.OK {
		k.discard()
		k.end()
		return false, err
	}
	if done {
		k.pieces = k.pieces[1:]
	}
	if len(k.pieces) == 0 {
		k.end()
	}
	return k.over, api.OK
}

// piece does the next piece. On a closed tablet none is: the log may hold a batch that was refused, and what is laid now could have it in part.
func (k *Task) piece() (bool, api.Errno) {
	if k.tablet.closed {
		return false, api.ErrClosed
	}
	return k.pieces[0]()
}

// then puts pieces behind those that are still to be done.
func (k *Task) then(pieces ...piece) {
	k.pieces = append(k.pieces, pieces...)
}

// end ends the task: others may work on its rows.
func (k *Task) end() {
	k.over = true
	for _, p := range k.held {
		p.busy = false
	}
	if k.flushes {
		k.tablet.flushing = false
	}
	k.held, k.pieces = nil, nil
}

// hold keeps other tasks off these parts, and off the rows in memory, if they are flushed, as long as the task isn't over.
func (k *Task) hold(parts []*part, flushes bool) {
	for _, p := range parts {
		p.busy = true
	}
	k.held, k.flushes = parts, flushes
	k.tablet.flushing = k.tablet.flushing || flushes
}

func isBusy(p *part) bool {
	return p.busy
}

// discard takes away what a task has laid that fails. What can't be removed is swept away by the next Open.
func (k *Task) discard() {
	for _, name := range k.laid {
		k.tablet.disk.Remove(name)
	}
	k.laid = nil
}

// mostPieces is how many pieces the files of a task are laid in at most.
const mostPieces = 40

// lay makes pieces that lay files on the disk, and make them safe.
func (k *Task) lay(files []api.File) {
	size := (len(files) + mostPieces - 1) / mostPieces
	for len(files) > 0 {
		n := min(size, len(files))
		some := files[:n:n]
		files = files[n:]
		k.then(always(func() api.Errno { return k.layAll(some) }))
	}
	// Their names are to be safe ahead of a superblock that has them.
	k.then(always(k.tablet.disk.SyncDir))
}

func (k *Task) layAll(files []api.File) api.Errno {
	for _, f := range files {
		if err := k.layOne(f); err != api.OK {
			return err
		}
	}
	return api.OK
}

func (k *Task) layOne(f api.File) api.Errno {
	d := k.tablet.disk
	// A task that failed may have left a file of this name, if that couldn't be removed.
	if _, err := d.Size(f.Name); err == api.OK {
		if err := d.Remove(f.Name); err != api.OK {
			return err
		}
	}
	if err := d.Create(f.Name); err != api.OK {
		return err
	}
	k.laid = append(k.laid, f.Name)
	if err := d.Append(f.Name, f.Data); err != api.OK {
		return err
	}
	return d.Sync(f.Name)
}

// clear removes the files that no superblock names any more that may be there behind a crash.
func (k *Task) clear() api.Errno {
	t := k.tablet
	// Another task's superblock may have been refused since.
	if !t.isSettled() {
		return api.OK
	}
	for len(t.trash) > 0 {
		if err := t.disk.Remove(t.trash[0]); err != api.OK {
			return err
		}
		t.trash = t.trash[1:]
	}
	return api.OK
}

// dropLog drops the segments that no Open needs, and what else tasks couldn't take away. First the superblock tells the mark and the last timestamp, which the segments may be the last to tell.
func (k *Task) dropLog() api.Errno {
	t := k.tablet
	upto := t.covered()
	if err := t.save(t.parts, t.super.Flush); err != api.OK {
		return err
	}
	k.then(always(func() api.Errno {
		_, err := t.log.Drop(upto)
		t.closed = t.closed || t.log.Dead()
		return err
	}), always(k.clear))
	return api.OK
}

// covered is a time up to which all changes are in files.
func (t *Tablet) covered() int64 {
	upto := t.clock.Clean()
	for _, h := range t.mem.Histories() {
		upto = min(upto, h.Changes[0].Time-1)
	}
	for _, p := range t.parts {
		later := p.redo.After(p.cover)
		for _, row := range later.Rows() {
			upto = min(upto, later.Of(row)[0].Time-1)
		}
	}
	return upto
}

// delta lays what has changed of the arg-th part, and isn't in its files yet, into a delta file.
func (k *Task) delta(arg int) (bool, api.Errno) {
	t := k.tablet
	if arg < 0 || arg >= len(t.parts) {
		return true, api.OK
	}
	p := t.parts[arg]
	if p.busy || !t.isQuiet() {
		return false, api.OK
	}
	cover := t.base([]*part{p})
	later := p.redo.After(p.cover).Upto(cover)
	if later.Len() == 0 {
		return true, api.OK
	}
	b, err := later.Encode(t.schema)
	if err != api.OK {
		return false, err
	}
	files, err := named(p.span.Id, []api.File{{Name: redoName(p.files + 1), Data: b}})
	if err != api.OK {
		return false, err
	}
	k.hold([]*part{p}, false)
	k.lay(files)
	k.then(always(func() api.Errno { return k.cover(p, cover) }))
	return true, api.OK
}

// cover counts in a part's delta file that was laid.
func (k *Task) cover(p *part, upto int64) api.Errno {
	t := k.tablet
	files, cover := p.files, p.cover
	p.files, p.cover = files+1, upto
	err := t.save(t.parts, t.super.Flush)
	if err != api.OK && t.isSettled() {
		p.files, p.cover = files, cover
		return err
	}
	// The superblock that is on the disk, or may be behind a crash, has the file: it must stay as it is.
	k.laid = nil
	return err
}

// base is the time at which new parts tell the rows of these. While all is quiet, all is settled up to Last; up to Clean it may be, too, but behind a crash the clock goes on from Last, and no change may come at a base or ahead of it.
func (t *Tablet) base(parts []*part) int64 {
	base := max(t.clock.Last(), 0)
	for _, p := range parts {
		base = max(base, p.Base())
	}
	return base
}

// floor is from where on the rows of these parts are to be told, and can be.
func (t *Tablet) floor(parts []*part, base int64) int64 {
	floor := min(t.clock.Floor(), base)
	for _, p := range parts {
		floor = max(floor, p.Floor())
	}
	return floor
}

// without are those parts that aren't among some of them.
func without(parts, some []*part) []*part {
	return slices.DeleteFunc(slices.Clone(parts), func(p *part) bool { return slices.Contains(some, p) })
}
