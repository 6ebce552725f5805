package meta

import (
	"slices"

	"stoa/api"
	"stoa/disk"
)

const (
	superName = "super"
	tempName  = "super.tmp" // until it has the other name, it doesn't count
)

// Save replaces the superblock.
func Save(d *disk.Disk, m api.Meta) api.Errno {
	b, err := Encode(m)
	if err != api.OK {
		return err
	}
	temp := func(step func(name string) api.Errno) func() api.Errno {
		return func() api.Errno { return step(tempName) }
	}
	steps := []func() api.Errno{
		temp(d.Create),
		func() api.Errno { return d.Append(tempName, b) },
		temp(d.Sync),
		func() api.Errno { return d.Rename(tempName, superName) },
		d.SyncDir,
	}
	if _, err := d.Size(tempName); err == api.OK {
		steps = slices.Insert(steps, 0, temp(d.Remove))
	}
	return inTurn(steps)
}

// inTurn does steps up to the first one that is refused.
func inTurn(steps []func() api.Errno) api.Errno {
	for _, step := range steps {
		if err := step(); err != api.OK {
			return err
		}
	}
	return api.OK
}

// Load reads the superblock.
func Load(d *disk.Disk) (api.Meta, bool, api.Errno) {
	size, err := d.Size(superName)
	if err == api.ErrNone {
		return api.Meta{}, false, api.OK
	}
	if err != api.OK {
		return api.Meta{}, false, err
	}
	b, err := d.Read(superName, 0, size)
	if err != api.OK {
		return api.Meta{}, false, err
	}
	m, err := Decode(b)
	return m, err == api.OK, err
}

// Sweep removes what broken tasks have left.
func Sweep(d *disk.Disk, m api.Meta) (int, api.Errno) {
	names, err := d.List()
	if err != api.OK {
		return 0, err
	}
	n := 0
	for _, name := range names {
		if !isLeft(name, m.Sets) {
			continue
		}
		if err := d.Remove(name); err != api.OK {
			return n, err
		}
		n++
	}
	if n == 0 {
		return 0, api.OK
	}
	return n, d.SyncDir()
}

// isLeft tells whether a file is one of those that a broken task has left.
func isLeft(name string, sets []api.SetMeta) bool {
	if name == tempName {
		return true
	}
	id, part, ok := Parse(name)
	if !ok {
		return false
	}
	i := slices.IndexFunc(sets, func(set api.SetMeta) bool { return set.Id == id })
	if i < 0 {
		return true
	}
	number, ok := redoNumber(part)
	return ok && number > sets[i].Files
}
