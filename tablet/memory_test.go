package tablet_test

import (
	"cmp"
	"slices"
	"unsafe"

	"stoa/api"
)

// area is the memory of a list, its spare room too. By the pointer it stays in use.
type area struct {
	from unsafe.Pointer
	size uintptr
}

func (a area) begin() uintptr { return uintptr(a.from) }

func areaOf[T any](list []T) area {
	if cap(list) == 0 {
		return area{}
	}
	return area{unsafe.Pointer(unsafe.SliceData(list)), uintptr(cap(list)) * unsafe.Sizeof(list[:1][0])}
}

func areasOfRows(rows [][]api.Cell) []area {
	all := []area{areaOf(rows)}
	for _, row := range rows {
		all = append(all, areaOf(row))
		for _, c := range row {
			all = append(all, areaOf(c.B))
		}
	}
	return all
}

// areApart tells whether no two of these share any memory.
func areApart(all []area) bool {
	all = slices.DeleteFunc(all, func(a area) bool { return a == area{} })
	slices.SortFunc(all, func(a, b area) int { return cmp.Compare(a.begin(), b.begin()) })
	for i := range all {
		if i > 0 && all[i].begin() < all[i-1].begin()+all[i-1].size {
			return false
		}
	}
	return true
}

// roomy is a copy with some room behind it, all of it zero.
func roomy[T any](list []T) []T {
	return append(slices.Clone(list), make([]T, 3)...)[:len(list)]
}

// isRoom tells whether the three behind a list are zero.
func isRoom[T any](list []T, zero func(T) bool) bool {
	return !slices.ContainsFunc(list[len(list):len(list)+3], func(v T) bool { return !zero(v) })
}

func zeroByte(b byte) bool { return b == 0 }

func zeroInt(n int) bool { return n == 0 }

func zeroCell(c api.Cell) bool { return !c.Null && c.Int == 0 && c.B == nil }

func spoil[T any](list []T, v T) {
	list = list[:cap(list)]
	for i := range list {
		list[i] = v
	}
}

func copyRow(row []api.Cell) []api.Cell {
	row = roomy(row)
	for i := range row {
		row[i].B = roomy(row[i].B)
	}
	return row
}

// isRow tells whether a copy with room is still as it was.
func isRow(given, row []api.Cell) bool {
	ok := slices.EqualFunc(given, row, func(a, b api.Cell) bool {
		return a.Null == b.Null && a.Int == b.Int && slices.Equal(a.B, b.B) && isRoom(a.B, zeroByte)
	})
	return ok && isRoom(given, zeroCell)
}

func spoilRow(row []api.Cell) {
	for _, c := range row {
		spoil(c.B, '~')
	}
	spoil(row, api.Cell{Int: -77})
}

func spoilRows(rows [][]api.Cell) {
	for _, row := range rows {
		spoilRow(row)
	}
	spoil(rows, nil)
}

func copyOps(ops []api.Op) []api.Op {
	ops = roomy(ops)
	for i := range ops {
		op := &ops[i]
		op.Row, op.Sets = copyRow(op.Row), roomy(op.Sets)
		for k := range op.Sets {
			op.Sets[k].Cell.B = roomy(op.Sets[k].Cell.B)
		}
	}
	return ops
}

// areOps tells whether copies with room are still as they were.
func areOps(given, ops []api.Op) bool {
	ok := slices.EqualFunc(given, ops, func(a, b api.Op) bool {
		return a.Kind == b.Kind && isRow(a.Row, b.Row) && isRoom(a.Sets, func(x api.Set) bool { return x.Col == 0 && zeroCell(x.Cell) }) &&
			slices.EqualFunc(a.Sets, b.Sets, func(a, b api.Set) bool {
				return a.Col == b.Col && a.Cell.Null == b.Cell.Null && a.Cell.Int == b.Cell.Int && slices.Equal(a.Cell.B, b.Cell.B) && isRoom(a.Cell.B, zeroByte)
			})
	})
	return ok && isRoom(given, func(op api.Op) bool { return op.Kind == 0 && op.Row == nil && op.Sets == nil })
}

func spoilOps(ops []api.Op) {
	for _, op := range ops {
		spoilRow(op.Row)
		for _, set := range op.Sets {
			spoil(set.Cell.B, '~')
		}
		spoil(op.Sets, api.Set{Col: -77})
	}
	spoil(ops, api.Op{Kind: -77})
}

func copySpec(s api.Spec) api.Spec {
	s.Low, s.High, s.Cols, s.Preds = copyRow(s.Low), copyRow(s.High), roomy(s.Cols), roomy(s.Preds)
	for i := range s.Preds {
		s.Preds[i].Cell.B = roomy(s.Preds[i].Cell.B)
	}
	return s
}

// isSpecOf tells whether a copy with room is still as it was.
func isSpecOf(given, s api.Spec) bool {
	ok := isRow(given.Low, s.Low) && isRow(given.High, s.High) && slices.Equal(given.Cols, s.Cols) && isRoom(given.Cols, zeroInt)
	ok = ok && isRoom(given.Preds, func(p api.Pred) bool { return p.Col == 0 && p.Kind == 0 && zeroCell(p.Cell) })
	return ok && slices.EqualFunc(given.Preds, s.Preds, func(a, b api.Pred) bool {
		return a.Col == b.Col && a.Kind == b.Kind && isRow([]api.Cell{a.Cell, {}, {}, {}}[:1], []api.Cell{b.Cell})
	})
}

func spoilSpec(s api.Spec) {
	spoilRow(s.Low)
	spoilRow(s.High)
	spoil(s.Cols, -77)
	for _, p := range s.Preds {
		spoil(p.Cell.B, '~')
	}
	spoil(s.Preds, api.Pred{Col: -77})
}

func copyConf(c api.Conf) api.Conf {
	c.Schema.Cols, c.Heights = roomy(c.Schema.Cols), roomy(c.Heights)
	return c
}

func isConf(given, c api.Conf) bool {
	return slices.Equal(given.Schema.Cols, c.Schema.Cols) && slices.Equal(given.Heights, c.Heights) &&
		isRoom(given.Schema.Cols, func(c api.Column) bool { return c == api.Column{} }) && isRoom(given.Heights, zeroInt)
}

func spoilConf(c api.Conf) {
	spoil(c.Schema.Cols, api.Column{Name: "~", Kind: -77})
	spoil(c.Heights, -77)
}
