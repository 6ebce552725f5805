package tablet

import (
	"cmp"
	"slices"

	"stoa/api"
	"stoa/keys"
	"stoa/memstore"
	"stoa/merge"
	"stoa/rowset"
)

// surePer are so many rows to a block that rows of every width can be written.
const surePer = 64

// mostId is the greatest Id of a part.
const mostId = 999999

// flush lays the rows in memory into a new part.
func (k *Task) flush() (bool, api.Errno) {
	t := k.tablet
	if t.mem.Len() == 0 {
		return true, api.OK
	}
	old, ok := t.folded(t.mem.Len())
	if !ok {
		return false, api.ErrFull
	}
	return k.rebuild(old, true)
}

// folded are the parts whose rows go into the new part, too, when so many others are flushed: those with the fewest rows, if else there were too many parts.
func (t *Tablet) folded(rows int) ([]*part, bool) {
	byRows := slices.Clone(t.parts)
	slices.SortStableFunc(byRows, func(a, b *part) int { return cmp.Compare(a.Rows(), b.Rows()) })
	for n := range len(byRows) + 1 {
		fresh := (rows + api.MaxRows - 1) / api.MaxRows
		if len(byRows)-n+fresh <= api.MaxSets {
			return byRows[:n:n], true
		}
		if n < len(byRows) {
			rows += byRows[n].Rows()
		}
	}
	return nil, false
}

// major makes the arg-th part anew.
func (k *Task) major(arg int) (bool, api.Errno) {
	t := k.tablet
	if arg < 0 || arg >= len(t.parts) {
		return true, api.OK
	}
	return k.rebuild(t.parts[arg:arg+1:arg+1], false)
}

// merge makes one part of several.
func (k *Task) merge(budget int) (bool, api.Errno) {
	t := k.tablet
	var spans []api.Bounds
	var rows []int
	for _, p := range t.parts {
		spans = append(spans, p.span)
		rows = append(rows, p.Rows())
	}
	var chosen []*part
	for _, id := range merge.Choose(spans, rows, budget) {
		chosen = append(chosen, t.part(id))
	}
	if len(chosen) == 0 {
		return true, api.OK
	}
	return k.rebuild(chosen, false)
}

// rebuild makes new parts of the rows of old ones, and of those in memory, if they are flushed.
func (k *Task) rebuild(old []*part, flushes bool) (bool, api.Errno) {
	t := k.tablet
	if slices.ContainsFunc(old, isBusy) || flushes && t.flushing || !t.isQuiet() {
		return false, api.OK
	}
	base := t.base(old)
	hs, err := t.histories(old, flushes, base)
	if err != api.OK {
		return false, err
	}
	fresh, err := k.build(hs, old, base)
	if err != api.OK {
		return false, err
	}
	k.hold(old, flushes)
	k.install(func() api.Errno { return k.swap(old, fresh, base) })
	return true, api.OK
}

// histories are those of all rows of these parts up to the base, and of those in memory, if they are flushed.
func (t *Tablet) histories(old []*part, flushes bool, base int64) ([]api.History, api.Errno) {
	var lists [][]api.History
	if flushes {
		lists = append(lists, t.mem.Histories())
	}
	for _, p := range old {
		hs, err := p.Histories(p.redo.Upto(base))
		if err != api.OK {
			return nil, err
		}
		lists = append(lists, hs)
	}
	all, err := merge.Join(t.schema, lists...)
	if err != api.OK {
		return nil, api.ErrCorrupt
	}
	return all, api.OK
}

// swap puts new parts in place of old ones, and of what was flushed, with all that has changed since the base.
func (k *Task) swap(old, fresh []*part, base int64) api.Errno {
	t := k.tablet
	for _, p := range old {
		if err := t.carry(p, fresh, base); err != api.OK {
			return err
		}
	}
	if !k.flushes {
		return k.replace(old, fresh, t.super.Flush)
	}
	left, err := t.split(fresh, base)
	if err != api.OK {
		return err
	}
	if err := k.replace(old, fresh, base); err != api.OK {
		return err
	}
	t.mem = left
	return api.OK
}

// install makes pieces that do this, once no batch hangs on where the rows live, and then clear away what isn't named any more.
func (k *Task) install(do func() api.Errno) {
	k.then(func() (bool, api.Errno) {
		if !k.tablet.isQuiet() {
			return false, api.OK
		}
		err := do()
		return err == api.OK, err
	}, always(k.clear))
}

// build makes parts of rows with these histories, in place of old ones, and pieces that lay them on the disk: several parts only if one can't hold so many rows.
func (k *Task) build(hs []api.History, old []*part, base int64) ([]*part, api.Errno) {
	t := k.tablet
	floor := t.floor(old, base)
	var fresh []*part
	var all []api.File
	for len(hs) > 0 {
		n := min(len(hs), api.MaxRows)
		some := hs[:n:n]
		hs = hs[n:]
		files, err := t.files(some, floor, base)
		if err == api.ErrMissing {
			continue
		}
		if err != api.OK {
			return nil, err
		}
		if t.next > mostId {
			return nil, api.ErrFull
		}
		p, err := newPart(t.schema, t.next, base, files)
		if err != api.OK {
			return nil, err
		}
		files, err = named(t.next, files)
		if err != api.OK {
			return nil, err
		}
		t.next++
		fresh, all = append(fresh, p), append(all, files...)
	}
	k.lay(all)
	return fresh, api.OK
}

// files are the files of rows with these histories.
func (t *Tablet) files(hs []api.History, floor, base int64) ([]api.File, api.Errno) {
	files, err := rowset.Build(t.schema, base, floor, t.per, hs...)
	if err == api.ErrLong {
		return rowset.Build(t.schema, base, floor, surePer, hs...)
	}
	return files, err
}

// replace puts new parts in place of old ones, in the superblock first.
func (k *Task) replace(old, fresh []*part, flush int64) api.Errno {
	t := k.tablet
	parts := append(without(t.parts, old), fresh...)
	// Another task may have taken a later Id, and been faster.
	slices.SortFunc(parts, func(a, b *part) int { return cmp.Compare(a.span.Id, b.span.Id) })
	if err := t.save(parts, flush); err != api.OK {
		if !t.isSettled() {
			// Behind a crash the new parts may be those that count: their files stay until another superblock is there.
			t.trash = append(t.trash, k.laid...)
			k.laid = nil
		}
		return err
	}
	k.laid = nil
	for _, p := range old {
		t.trash = append(t.trash, t.fileNames(p)...)
	}
	return t.use(parts)
}

// carry takes the changes of a part above the base over to the new parts that have its rows.
func (t *Tablet) carry(old *part, fresh []*part, base int64) api.Errno {
	later := old.redo.After(base)
	for _, row := range later.Rows() {
		// Such a row is there at the base: an insert makes a life in memory, and no change of a part.
		cells, live, err := old.Row(row, base, old.redo)
		if err != api.OK || !live {
			return api.ErrCorrupt
		}
		key, err := t.keyOf(cells)
		if err != api.OK {
			return err
		}
		if err := give(fresh, key, later.Of(row)); err != api.OK {
			return err
		}
	}
	return api.OK
}

// give puts a row's changes to the redo of that part which has its key.
func give(fresh []*part, key []byte, changes []api.Change) api.Errno {
	for _, p := range fresh {
		row, found, err := p.Find(key)
		if err != api.OK {
			return err
		}
		if !found {
			continue
		}
		for _, c := range changes {
			if err := p.redo.Add(api.Place{Row: row, Time: c.Time}, c); err != api.OK {
				return err
			}
		}
		return api.OK
	}
	return api.ErrCorrupt
}

// split gives the new parts what has changed of their rows above the base, and answers a memory of the lives that have begun since.
func (t *Tablet) split(fresh []*part, base int64) (*memstore.Store, api.Errno) {
	left, err := memstore.New(t.schema, t.heights...)
	if err != api.OK {
		return nil, err
	}
	for _, h := range t.mem.Histories() {
		later := h.Changes[firstOf(h.Changes, func(c api.Change) bool { return c.Time > base }):]
		n := firstOf(later, func(c api.Change) bool { return c.Kind == api.OInsert })
		if n > 0 {
			if err := give(fresh, h.Key, later[:n]); err != api.OK {
				return nil, err
			}
		}
		if err := t.keep(left, h.Key, later[n:]); err != api.OK {
			return nil, err
		}
	}
	return left, api.OK
}

// firstOf is the place of the first change of which something holds; behind the last, if there is none.
func firstOf(changes []api.Change, holds func(api.Change) bool) int {
	if i := slices.IndexFunc(changes, holds); i >= 0 {
		return i
	}
	return len(changes)
}

// keep puts a key's changes into a memory.
func (t *Tablet) keep(left *memstore.Store, key []byte, changes []api.Change) api.Errno {
	cells, err := keys.Decode(t.schema, key)
	if err != api.OK {
		return err
	}
	for _, c := range changes {
		op := api.Op{Kind: c.Kind, Row: cells, Sets: c.Sets}
		if c.Kind == api.OInsert {
			op.Row = c.Row
		}
		if err := left.Apply(c.Time, op); err != api.OK {
			return err
		}
	}
	return api.OK
}
