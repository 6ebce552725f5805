// Package story has what the layers of changes (19 and on) share: what a change may bring, copies of changes, what they make of a row, and what takes them back.
package story

import (
	"bytes"
	"slices"

	"stoa/api"
	"stoa/schema"
)

// IsKind tells whether there is such a kind of operation.
func IsKind(kind int) bool {
	switch kind {
	case api.OInsert, api.OUpdate, api.ODelete:
		return true
	}
	return false
}

// Check is the first error of what a change of one of the kinds brings: an insert a row alone, an update sets alone, a delete nothing.
func Check(s api.Schema, c api.Change) api.Errno {
	if c.Kind == api.OInsert {
		if err := schema.Row(s, c.Row); err != api.OK {
			return err
		}
	} else if len(c.Row) > 0 {
		return api.ErrCols
	}
	if c.Kind == api.OUpdate {
		return schema.Sets(s, c.Sets)
	}
	if len(c.Sets) > 0 {
		return api.ErrCols
	}
	return api.OK
}

// CopyCells copies cells, and what they hold.
func CopyCells(cells []api.Cell) []api.Cell {
	all := slices.Grow([]api.Cell(nil), len(cells))
	for _, c := range cells {
		all = append(all, copyCell(c))
	}
	return all
}

func copyCell(c api.Cell) api.Cell {
	c.B = bytes.Clone(c.B)
	return c
}

// Copy copies a change, and what it brings.
func Copy(c api.Change) api.Change {
	c.Row = CopyCells(c.Row)
	sets := slices.Grow([]api.Set(nil), len(c.Sets))
	for _, set := range c.Sets {
		sets = append(sets, api.Set{Col: set.Col, Cell: copyCell(set.Cell)})
	}
	c.Sets = sets
	return c
}

// State is a row's state, while changes are done to it; of the zero one the row isn't there, and has no cells.
type State struct {
	cells []api.Cell // the list is the state's own, what its cells hold is others'; a row that isn't there can have been handed in with some
	live  bool
}

// Begin is the state of a row that has these cells, there or not.
func Begin(cells []api.Cell, live bool) State {
	return State{cells: slices.Clone(cells), live: live}
}

// Do does a change: an update as far as the row is there and has the columns.
func (x *State) Do(c api.Change) {
	switch c.Kind {
	case api.OInsert:
		*x = Begin(c.Row, true)
	case api.OUpdate:
		for _, set := range c.Sets {
			if x.Has(set.Col) {
				x.cells[set.Col] = set.Cell
			}
		}
	case api.ODelete:
		*x = State{}
	}
}

// Undo is the change that takes the state behind a change back to this one: an update's, of those columns that the row has here.
func (x *State) Undo(c api.Change) api.Change {
	undo := api.Change{Time: c.Time}
	switch c.Kind {
	case api.OInsert:
		undo.Kind = api.ODelete
	case api.OUpdate:
		undo.Kind = api.OUpdate
		for _, set := range c.Sets {
			if x.Has(set.Col) {
				undo.Sets = append(undo.Sets, api.Set{Col: set.Col, Cell: copyCell(x.cells[set.Col])})
			}
		}
	case api.ODelete:
		undo.Kind = api.OInsert
		undo.Row = CopyCells(x.cells)
	}
	return undo
}

// Has tells whether the row is there and has a column.
func (x *State) Has(col int) bool {
	return x.live && col >= 0 && col < len(x.cells)
}

// Tell tells the row's cells as a copy, and whether it is there.
func (x *State) Tell() ([]api.Cell, bool) {
	return CopyCells(x.cells), x.live
}
