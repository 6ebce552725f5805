package tablet

import (
	"bytes"
	"slices"

	"stoa/api"
	"stoa/keys"
	"stoa/schema"
	"stoa/story"
	"stoa/vint"
)

// The first bytes of the log's records.
const (
	batchRecord = 1
	markRecord  = 2
)

// operation is one on the row with this key.
type operation struct {
	key []byte
	op  api.Op
}

// record is what a record of the log tells: a batch's operations, or the mark.
type record struct {
	done []operation
	mark int64
}

// putBatch writes the record of a batch of which these operations are done.
func putBatch(s api.Schema, done []operation) ([]byte, api.Errno) {
	all := slices.Concat([]byte{batchRecord}, vint.Put(uint64(len(done))))
	for _, one := range done {
		all = slices.Concat(all, []byte{byte(one.op.Kind)}, vint.Put(uint64(len(one.key))), one.key)
		more, err := putCells(s, one.op)
		if err != api.OK {
			return nil, err
		}
		all = append(all, more...)
	}
	return all, api.OK
}

// putCells writes what an operation brings besides its key.
func putCells(s api.Schema, op api.Op) ([]byte, api.Errno) {
	switch op.Kind {
	case api.OInsert:
		return schema.PutRow(s, op.Row)
	case api.OUpdate:
		return schema.PutSets(s, op.Sets)
	}
	return nil, api.OK
}

// getRecord reads a record; false if none is written so.
func getRecord(s api.Schema, b []byte) (record, bool) {
	r := &reader{schema: s, all: b}
	var told record
	switch r.kind() {
	case batchRecord:
		for range r.number(api.MaxOps) {
			told.done = append(told.done, r.operation())
		}
	case markRecord:
		told.mark = int64(r.number(api.MaxTime))
	default:
		return record{}, false
	}
	return told, !r.bad && r.at == len(b)
}

// reader reads a record piece by piece; once a piece isn't as it has to be, it and all behind it are zero.
type reader struct {
	schema api.Schema
	all    []byte
	at     int
	bad    bool
}

// went goes on to a place, unless a piece ahead of it wasn't right.
func (r *reader) went(to int, err api.Errno) bool {
	if r.bad || err != api.OK {
		r.bad = true
		return false
	}
	r.at = to
	return true
}

// take reads n bytes.
func (r *reader) take(n int) []byte {
	if n > len(r.all)-r.at {
		r.bad = true
		return nil
	}
	b := r.all[r.at : r.at+n]
	r.at += n
	return b
}

// kind reads a byte that says what follows.
func (r *reader) kind() int {
	if b := r.take(1); len(b) > 0 {
		return int(b[0])
	}
	return 0
}

// number reads a number that is at most so great.
func (r *reader) number(most uint64) uint64 {
	n, next, err := vint.Get(r.all, r.at)
	if !r.went(next, err) {
		return 0
	}
	if n > most {
		r.bad = true
		return 0
	}
	return n
}

func (r *reader) operation() operation {
	one := operation{op: api.Op{Kind: r.kind()}}
	one.key = r.take(int(r.number(api.MaxCell)))
	cells, err := keys.Decode(r.schema, one.key)
	if err != api.OK || !story.IsKind(one.op.Kind) {
		r.bad = true
		return operation{}
	}
	one.op.Row = cells
	switch one.op.Kind {
	case api.OInsert:
		one.op.Row = r.row(one.key)
	case api.OUpdate:
		sets, next, err := schema.GetSets(r.schema, r.all, r.at)
		r.went(next, err)
		one.op.Sets = sets
	}
	return one
}

// row reads the row of an insert, which begins with its key.
func (r *reader) row(key []byte) []api.Cell {
	row, next, err := schema.GetRow(r.schema, r.all, r.at)
	if !r.went(next, err) {
		return nil
	}
	own, err := keys.Encode(r.schema, row[:r.schema.Keys])
	if err != api.OK || !bytes.Equal(own, key) {
		r.bad = true
	}
	return row
}
