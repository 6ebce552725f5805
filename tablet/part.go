package tablet

import (
	"cmp"
	"slices"
	"strconv"

	"stoa/api"
	"stoa/delta"
	"stoa/meta"
	"stoa/rowset"
	"stoa/tree"
)

// part is one of the tablet's rowsets, with what has changed of it since.
type part struct {
	*rowset.Set
	span  api.Bounds
	redo  *delta.Delta // all changes above the base: those of the delta files, too
	cover int64        // up to where the files have all changes of the rows
	files int          // delta files
	busy  bool         // a task works on it
}

// newPart makes the part with an Id of its files' bytes, which stand under the parts' names.
func newPart(s api.Schema, id int, cover int64, files []api.File) (*part, api.Errno) {
	set, err := rowset.Open(s, files...)
	if err != api.OK {
		return nil, err
	}
	first, last, err := set.Bounds()
	if err != api.OK {
		return nil, err
	}
	return &part{Set: set, span: api.Bounds{Id: id, Min: first, Max: last}, redo: delta.New(), cover: cover}, api.OK
}

// living finds the row with this key, if it is there at a time; else it answers -1.
func (p *part) living(key []byte, at int64) (int, api.Errno) {
	row, found, err := p.Find(key)
	if err != api.OK || !found {
		return -1, err
	}
	_, live, err := p.Row(row, at, p.redo)
	if err != api.OK || !live {
		return -1, err
	}
	return row, api.OK
}

// meta is what the superblock has of the part.
func (p *part) meta() api.SetMeta {
	return api.SetMeta{Id: p.span.Id, Rows: p.Rows(), Cover: p.cover, Files: p.files}
}

// part is the part with this Id.
func (t *Tablet) part(id int) *part {
	i, _ := slices.BinarySearchFunc(t.parts, id, func(p *part, id int) int { return cmp.Compare(p.span.Id, id) })
	return t.parts[i]
}

// use makes these the parts that the tablet has.
func (t *Tablet) use(parts []*part) api.Errno {
	var spans []api.Bounds
	for _, p := range parts {
		spans = append(spans, p.span)
	}
	all, err := tree.New(spans...)
	if err != api.OK {
		// The keys of one of them don't rise.
		return api.ErrCorrupt
	}
	t.parts, t.spans = parts, all
	return api.OK
}

// partNames are the names of the parts of a rowset, in the order in which layer 21 wants them.
func partNames(s api.Schema) []string {
	names := []string{"base", "bloom"}
	for col := s.Keys; col < len(s.Cols); col++ {
		names = append(names, "col-"+digits(col, 100))
	}
	return append(names, "keys", "live", "undo")
}

// redoName is the name of the part that is the delta file with this number.
func redoName(number int) string {
	return "redo-" + digits(number, 1000)
}

// digits writes a number with as many digits as the numbers below a power of ten have at most.
func digits(n, power int) string {
	return strconv.Itoa(power + n)[1:]
}

// named are a part's files under the names that they have on the disk.
func named(id int, files []api.File) ([]api.File, api.Errno) {
	var all []api.File
	for _, f := range files {
		name, err := meta.Name(id, f.Name)
		if err != api.OK {
			return nil, err
		}
		all = append(all, api.File{Name: name, Data: f.Data})
	}
	return all, api.OK
}

// fileNames are the names that a part's files have on the disk, those of its deltas, too.
func (t *Tablet) fileNames(p *part) []string {
	parts := partNames(t.schema)
	for n := range p.files {
		parts = append(parts, redoName(n+1))
	}
	var names []string
	for _, one := range parts {
		if name, err := meta.Name(p.span.Id, one); err == api.OK {
			names = append(names, name)
		}
	}
	return names
}
