package rowset

import (
	"bytes"
	"slices"
	"strconv"

	"stoa/api"
	"stoa/bloom"
	"stoa/cfile"
	"stoa/delta"
	"stoa/frame"
	"stoa/memstore"
	"stoa/schema"
	"stoa/vint"
)

// The names of a rowset's files, but for those of its columns.
const (
	baseName  = "base"
	bloomName = "bloom"
	keysName  = "keys"
	liveName  = "live"
	undoName  = "undo"
)

const baseKind = 1 // of the frame that is the file "base"

// names are the names of a rowset's files in their order.
func names(s api.Schema) []string {
	all := []string{baseName, bloomName}
	for col := s.Keys; col < len(s.Cols); col++ {
		all = append(all, columnName(col))
	}
	return append(all, keysName, liveName, undoName)
}

func columnName(col int) string {
	return "col-" + strconv.Itoa(col/10) + strconv.Itoa(col%10)
}

// builder gathers what a rowset's files tell, row by row.
type builder struct {
	schema      api.Schema
	base, floor int64
	keys        [][]byte
	columns     [][]api.Cell // of those of the schema's columns that aren't of the key
	live        []api.Cell
	undo        *delta.Delta
}

// Build makes a rowset's files.
func Build(s api.Schema, base, floor int64, per int, hs ...api.History) ([]api.File, api.Errno) {
	if err := schema.Check(s); err != api.OK {
		return nil, err
	}
	if per < 1 || per > api.MaxValues || floor < 0 || base < floor || base > api.MaxTime {
		return nil, api.ErrArg
	}
	if err := check(s, hs); err != api.OK {
		return nil, err
	}
	left := kept(hs, base, floor)
	if len(left) == 0 {
		return nil, api.ErrMissing
	}
	if len(left) > api.MaxRows {
		return nil, api.ErrLong
	}
	b := &builder{schema: s, base: base, floor: floor, undo: delta.New()}
	b.columns = make([][]api.Cell, len(s.Cols)-s.Keys)
	for _, h := range left {
		b.add(h)
	}
	return b.files(per)
}

// check is the first error of histories.
func check(s api.Schema, hs []api.History) api.Errno {
	for i, h := range hs {
		if i > 0 && bytes.Compare(hs[i-1].Key, h.Key) >= 0 {
			return api.ErrOrder
		}
		if err := memstore.Chain(s, h.Key, h.Changes...); err != api.OK {
			return err
		}
	}
	return api.OK
}

// kept are the histories that aren't left out.
func kept(hs []api.History, base, floor int64) []api.History {
	var all []api.History
	for _, h := range hs {
		_, live := memstore.State(h.Changes, base)
		changed := slices.ContainsFunc(h.Changes, func(c api.Change) bool { return c.Time > floor && c.Time <= base })
		if live || changed {
			all = append(all, h)
		}
	}
	return all
}

// add adds a row behind all others.
func (b *builder) add(h api.History) {
	number := len(b.keys)
	b.keys = append(b.keys, h.Key)
	row, live := memstore.State(h.Changes, b.base)
	there := api.Cell{}
	if live {
		there.Int = 1
	}
	b.live = append(b.live, there)
	for i := range b.columns {
		col := b.schema.Keys + i
		c := filler(b.schema.Cols[col])
		if live {
			c = row[col]
		}
		b.columns[i] = append(b.columns[i], c)
	}
	for _, c := range delta.Undos(h.Changes, b.base) {
		if c.Time > b.floor {
			b.undo.Add(api.Place{Row: number, Time: c.Time}, c)
		}
	}
}

// filler is what stands in a column for a row that isn't there: a number that is 0, and no bytes, are both the zero cell.
func filler(col api.Column) api.Cell {
	return api.Cell{Null: col.Null}
}

// files writes what was gathered.
func (b *builder) files(per int) ([]api.File, api.Errno) {
	var all []api.File
	wrong := api.OK
	put := func(name string, data []byte, err api.Errno) {
		if wrong == api.OK {
			wrong = err
		}
		all = append(all, api.File{Name: name, Data: data})
	}
	data, err := b.putBase()
	put(baseName, data, err)
	filter := bloom.New(len(b.keys))
	filter.Add(b.keys...)
	put(bloomName, filter.Encode(), api.OK)
	for i, cells := range b.columns {
		col := b.schema.Keys + i
		data, err = cfile.Build(b.schema.Cols[col].Kind, per, cells...)
		put(columnName(col), data, err)
	}
	data, err = cfile.BuildKeys(per, b.keys...)
	put(keysName, data, err)
	data, err = cfile.Build(api.KBool, per, b.live...)
	put(liveName, data, err)
	data, err = b.undo.Encode(b.schema)
	put(undoName, data, err)
	if wrong != api.OK {
		return nil, wrong
	}
	return all, api.OK
}

// putBase writes the file "base".
func (b *builder) putBase() ([]byte, api.Errno) {
	var body []byte
	for _, n := range []int64{b.base, b.floor, int64(len(b.keys))} {
		body = append(body, vint.Put(uint64(n))...)
	}
	return frame.Put(baseKind, body)
}

// getBase reads the file "base": the base, the floor, and the number of rows.
func getBase(b []byte) (numbers [3]int64, ok bool) {
	f, end, err := frame.Get(b, 0)
	if err != api.OK || end != len(b) || f.Kind != baseKind {
		return numbers, false
	}
	at := 0
	for i := range numbers {
		u, next, err := vint.Get(f.Body, at)
		// None of the three is greater than a time can be.
		if err != api.OK || u > api.MaxTime {
			return numbers, false
		}
		numbers[i], at = int64(u), next
	}
	return numbers, at == len(f.Body)
}
