package tablet

import (
	"bytes"
	"slices"
	"strings"

	"stoa/api"
	"stoa/delta"
	"stoa/disk"
	"stoa/memstore"
	"stoa/meta"
	"stoa/mvcc"
	"stoa/schema"
	"stoa/wal"
)

// Open finds the tablet that lies on a disk.
func Open(d *disk.Disk, conf api.Conf) (*Tablet, api.Errno) {
	if err := schema.Check(conf.Schema); err != api.OK {
		return nil, err
	}
	super, there, err := meta.Load(d)
	if err != api.OK {
		return nil, err
	}
	if !there {
		super = api.Meta{Next: 1, Flush: -1, Last: -1}
	} else if !isSame(super.Schema, conf.Schema) {
		return nil, api.ErrSchema
	}
	t, err := newTablet(d, conf, super)
	if err != api.OK {
		return nil, err
	}
	// All that is to be read is read ahead of the first step: what isn't right goes ahead of what is refused.
	for _, read := range []func() api.Errno{t.readParts, func() api.Errno { return t.readLog(conf.Seg) }} {
		if err := read(); err != api.OK {
			return nil, err
		}
	}
	if err := t.clean(there); err != api.OK {
		return nil, err
	}
	return t, api.OK
}

func isSame(a, b api.Schema) bool {
	return a.Keys == b.Keys && slices.Equal(a.Cols, b.Cols)
}

// newTablet is a tablet that knows its superblock, and nothing else yet.
func newTablet(d *disk.Disk, conf api.Conf, super api.Meta) (*Tablet, api.Errno) {
	own := api.Schema{Cols: slices.Clone(conf.Schema.Cols), Keys: conf.Schema.Keys}
	t := &Tablet{
		disk:    d,
		schema:  own,
		per:     min(max(conf.Block, 1), api.MaxValues),
		heights: slices.Clone(conf.Heights),
		clock:   mvcc.New(),
		locks:   map[string]*Write{},
		super:   super,
		gen:     super.Gen,
		next:    super.Next,
	}
	mem, err := memstore.New(own, t.heights...)
	t.mem = mem
	return t, err
}

// readParts reads the rowsets that the superblock names.
func (t *Tablet) readParts() api.Errno {
	var parts []*part
	for _, set := range t.super.Sets {
		p, err := t.readPart(set)
		if err != api.OK {
			return err
		}
		parts = append(parts, p)
	}
	return t.use(parts)
}

func (t *Tablet) readPart(set api.SetMeta) (*part, api.Errno) {
	var files []api.File
	for _, name := range partNames(t.schema) {
		b, err := t.read(set.Id, name)
		if err != api.OK {
			return nil, err
		}
		files = append(files, api.File{Name: name, Data: b})
	}
	p, err := newPart(t.schema, set.Id, set.Cover, files)
	if err != api.OK {
		return nil, err
	}
	if p.Rows() != set.Rows {
		return nil, api.ErrCorrupt
	}
	p.files = set.Files
	for n := range set.Files {
		if err := t.readRedo(p, n+1); err != api.OK {
			return nil, err
		}
	}
	return p, api.OK
}

// readRedo reads a delta file of a part.
func (t *Tablet) readRedo(p *part, number int) api.Errno {
	b, err := t.read(p.span.Id, redoName(number))
	if err != api.OK {
		return err
	}
	redo, err := delta.Decode(t.schema, b)
	if err != api.OK {
		return err
	}
	isBehind := func(row int) bool { return row >= p.Rows() }
	if slices.ContainsFunc(redo.Rows(), isBehind) || p.redo.Merge(redo) != api.OK {
		return api.ErrCorrupt
	}
	return api.OK
}

// read reads the file of a part's part. The superblock names it: one that isn't there isn't as it was written.
func (t *Tablet) read(id int, part string) ([]byte, api.Errno) {
	name, err := meta.Name(id, part)
	if err != api.OK {
		return nil, err
	}
	size, err := t.disk.Size(name)
	if err == api.ErrNone {
		return nil, api.ErrCorrupt
	}
	if err != api.OK {
		return nil, err
	}
	return t.disk.Read(name, 0, size)
}

// readLog reads the log, does what isn't in the rowsets yet, and sets the clock.
func (t *Tablet) readLog(seg int) api.Errno {
	log, entries, err := wal.Open(t.disk, seg)
	if err != api.OK {
		return err
	}
	t.log = log
	mark := t.super.Mark
	for _, e := range entries {
		r, ok := getRecord(t.schema, e.Body)
		if !ok {
			return api.ErrCorrupt
		}
		mark = max(mark, r.mark)
		for _, one := range r.done {
			if err := t.redo(e.Time, one); err != api.OK {
				return err
			}
		}
	}
	t.clock.Raise(max(t.super.Last, log.Last()))
	t.clock.Tick(1)
	return t.clock.Move(mark)
}

// redo does an operation that the log tells, unless a rowset has it already.
func (t *Tablet) redo(at int64, one operation) api.Errno {
	isInsert := one.op.Kind == api.OInsert
	if isInsert {
		has, err := t.hasInsert(at, one.key)
		if err != api.OK || has {
			return err
		}
	}
	where, err := t.locate(one.key, at)
	if err != api.OK {
		return err
	}
	if !isInsert && where == nowhere() {
		// Of all rowsets that may have the row, none lacks a change of this time.
		return api.OK
	}
	if isInsert && where != nowhere() || t.change(where, at, one.op) != api.OK {
		return api.ErrCorrupt
	}
	return api.OK
}

// hasInsert tells whether a rowset has the insert of this time: all are in rowsets up to the last flush, and some may be that are later.
func (t *Tablet) hasInsert(at int64, key []byte) (bool, api.Errno) {
	if at <= t.super.Flush {
		return true, api.OK
	}
	for _, id := range t.spans.Stab(key) {
		p := t.part(id)
		if p.cover < at {
			continue
		}
		row, err := p.living(key, max(at, p.Floor()))
		if err != api.OK || row >= 0 {
			return err == api.OK, err
		}
	}
	return false, api.OK
}

// clean makes safe what was found, and takes away what broken tasks have left. A tablet that is new gets its superblock first.
func (t *Tablet) clean(there bool) api.Errno {
	if !there {
		if err := t.save(nil, t.super.Flush); err != api.OK {
			return err
		}
	}
	if err := t.syncFound(); err != api.OK {
		return err
	}
	_, err := meta.Sweep(t.disk, t.super)
	return err
}

// syncFound makes the last segment safe that was found: within one life of the power an earlier tablet may have left it unsafe, and what is told of it may not be lost in part.
func (t *Tablet) syncFound() api.Errno {
	names, err := t.disk.List()
	if err != api.OK {
		return err
	}
	last := ""
	for _, name := range names {
		if isSegment(name) {
			last = name
		}
	}
	if last == "" {
		return api.OK
	}
	return t.disk.Sync(last)
}

// isSegment tells whether this is the name of a segment of the log.
func isSegment(name string) bool {
	number, ok := strings.CutPrefix(name, "wal-")
	return ok && len(number) == 6 && strings.Trim(number, "0123456789") == ""
}

// save replaces the superblock: these parts, and all inserts up to this time in them.
func (t *Tablet) save(parts []*part, flush int64) api.Errno {
	t.gen = min(t.gen+1, api.MaxTime)
	m := api.Meta{Gen: t.gen, Next: t.next, Flush: flush, Last: t.clock.Last(), Mark: t.clock.Mark(), Schema: t.schema}
	for _, p := range parts {
		m.Sets = append(m.Sets, p.meta())
	}
	if err := meta.Save(t.disk, m); err != api.OK {
		return err
	}
	t.super = m
	return api.OK
}

// isSettled tells whether the superblock on the disk is the one that was saved last: behind a Save that was refused late it may be the other one, and behind a crash either.
func (t *Tablet) isSettled() bool {
	now, there, err := meta.Load(t.disk)
	if err != api.OK || !there {
		return false
	}
	a, _ := meta.Encode(now)
	b, _ := meta.Encode(t.super)
	return bytes.Equal(a, b)
}
