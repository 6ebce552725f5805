package story_test

import (
	"bytes"
	"math"
	"slices"
	"testing"
	"unsafe"

	"stoa/api"
	"stoa/story"
)

func number(v int64) api.Cell { return api.Cell{Int: v} }

func text(s string) api.Cell { return api.Cell{B: []byte(s)} }

func table() api.Schema {
	return api.Schema{Cols: []api.Column{{Name: "id", Kind: api.KI32}, {Name: "name", Kind: api.KStr}}, Keys: 1}
}

func row(id int64, name string) []api.Cell { return []api.Cell{number(id), text(name)} }

func to(name string) []api.Set { return []api.Set{{Col: 1, Cell: text(name)}} }

func sameCell(a, b api.Cell) bool {
	return a.Null == b.Null && a.Int == b.Int && bytes.Equal(a.B, b.B)
}

func sameRow(a, b []api.Cell) bool { return slices.EqualFunc(a, b, sameCell) }

func TestIsKind(t *testing.T) {
	for _, kind := range []int{math.MinInt, -1, 0, 1, 2, 3, 4, 257, math.MaxInt} {
		if got, want := story.IsKind(kind), kind >= 1 && kind <= 3; got != want {
			t.Errorf("IsKind(%d) = %t", kind, got)
		}
	}
}

func TestCheck(t *testing.T) {
	bad := []api.Set{{Col: 1, Cell: number(1)}}
	for i, x := range []struct {
		c api.Change
		e api.Errno
	}{
		{api.Change{Kind: api.OInsert, Row: row(7, "x")}, api.OK},
		{api.Change{Kind: api.OInsert, Row: row(7, "x")[:1]}, api.ErrCols},
		{api.Change{Kind: api.OInsert, Row: row(1<<31, "x"), Sets: to("y")}, api.ErrRange},
		{api.Change{Kind: api.OInsert, Row: row(7, "x"), Sets: bad}, api.ErrCols},
		{api.Change{Kind: api.OUpdate, Sets: to("y")}, api.OK},
		{api.Change{Kind: api.OUpdate, Sets: bad}, api.ErrKind},
		{api.Change{Kind: api.OUpdate}, api.ErrCols},
		{api.Change{Kind: api.OUpdate, Row: row(7, "x")[:1], Sets: bad}, api.ErrCols},
		{api.Change{Kind: api.ODelete}, api.OK},
		{api.Change{Kind: api.ODelete, Row: row(7, "x")[:1]}, api.ErrCols},
		{api.Change{Kind: api.ODelete, Sets: bad}, api.ErrCols},
	} {
		if e := story.Check(table(), x.c); e != x.e {
			t.Errorf("%d: Check = %d; want %d", i, e, x.e)
		}
	}
}

func TestCopies(t *testing.T) {
	c := api.Change{Time: 3, Kind: api.OUpdate, Row: row(7, "x"), Sets: to("y")}
	got := story.Copy(c)
	if got.Time != 3 || got.Kind != api.OUpdate || !sameRow(got.Row, row(7, "x")) || len(got.Sets) != 1 || got.Sets[0].Col != 1 || string(got.Sets[0].Cell.B) != "y" {
		t.Fatalf("Copy = %v", got)
	}
	c.Row[0], c.Row[1].B[0], c.Sets[0].Cell.B[0], c.Sets[0].Col = number(8), 'a', 'b', 5
	if !sameRow(got.Row, row(7, "x")) || got.Sets[0].Col != 1 || string(got.Sets[0].Cell.B) != "y" {
		t.Errorf("with what was copied its copy changes to %v", got)
	}
	// An empty list isn't kept by its spare room either.
	room := row(7, "x")
	if got := story.CopyCells(room[:0]); len(got) != 0 || unsafe.SliceData(got) == unsafe.SliceData(room) {
		t.Errorf("CopyCells of none = %v", got)
	}
	if got := story.CopyCells(nil); got != nil {
		t.Errorf("CopyCells of nil = %v", got)
	}
}

func TestState(t *testing.T) {
	first := row(7, "x")
	x := story.Begin(first, true)
	want := func(cells []api.Cell, live bool) {
		t.Helper()
		if got, is := x.Tell(); is != live || !sameRow(got, cells) {
			t.Errorf("it tells %v, %t; want %v, %t", got, is, cells, live)
		}
		for _, col := range []int{math.MinInt, -1, 0, 1, 2, math.MaxInt} {
			if got := x.Has(col); got != (live && col >= 0 && col < len(cells)) {
				t.Errorf("Has(%d) = %t", col, got)
			}
		}
	}
	want(row(7, "x"), true)
	x.Do(api.Change{Kind: api.OUpdate, Sets: append(to("y"), api.Set{Col: 2}, api.Set{Col: -1})})
	want(row(7, "y"), true)
	if !sameRow(first, row(7, "x")) {
		t.Errorf("an update changes what was handed in: %v", first)
	}
	told, _ := x.Tell()
	told[1].B[0] = 'z'
	want(row(7, "y"), true)
	x.Do(api.Change{Kind: 4, Row: row(1, "a"), Sets: to("a")})
	want(row(7, "y"), true)
	x.Do(api.Change{Kind: api.ODelete, Row: row(1, "a")})
	want(nil, false)
	x.Do(api.Change{Kind: api.OUpdate, Sets: to("z")})
	want(nil, false)
	x.Do(api.Change{Kind: api.OInsert, Row: first[:1], Sets: to("z")})
	want(row(7, "")[:1], true)
	x.Do(api.Change{Kind: api.OUpdate, Sets: []api.Set{{Col: 0, Cell: number(9)}}})
	want(row(9, "")[:1], true)
	if !sameRow(first, row(7, "x")) {
		t.Errorf("an update changes the row that was inserted: %v", first)
	}
	x = story.Begin(first, false)
	want(row(7, "x"), false)
	x.Do(api.Change{Kind: api.OUpdate, Sets: to("z")})
	want(row(7, "x"), false)
	told, _ = x.Tell()
	told[1].B[0] = 'z'
	want(row(7, "x"), false)
	x.Do(api.Change{Kind: api.ODelete})
	want(nil, false)
	x = story.Begin(first, false)
	x.Do(api.Change{Kind: api.OInsert, Row: first[:1]})
	want(row(7, "")[:1], true)
	x = story.Begin(nil, false)
	want(nil, false)
	x = story.Begin(nil, true)
	want(nil, true)
	x = story.State{}
	want(nil, false)
}

func TestUndo(t *testing.T) {
	first := row(7, "x")
	there, gone := story.Begin(first, true), story.Begin(nil, false)
	is := func(got, want api.Change) {
		t.Helper()
		same := slices.EqualFunc(got.Sets, want.Sets, func(a, b api.Set) bool { return a.Col == b.Col && sameCell(a.Cell, b.Cell) })
		if got.Time != want.Time || got.Kind != want.Kind || !sameRow(got.Row, want.Row) || !same {
			t.Errorf("it is taken back by %v; want %v", got, want)
		}
	}
	is(gone.Undo(api.Change{Time: 3, Kind: api.OInsert, Row: row(8, "y")}), api.Change{Time: 3, Kind: api.ODelete})
	is(there.Undo(api.Change{Time: 4, Kind: api.OUpdate, Sets: to("z")}), api.Change{Time: 4, Kind: api.OUpdate, Sets: to("x")})
	is(there.Undo(api.Change{Time: 5, Kind: api.ODelete}), api.Change{Time: 5, Kind: api.OInsert, Row: first})
	// Of columns that the row hasn't there is nothing to be taken back.
	is(there.Undo(api.Change{Kind: api.OUpdate, Sets: []api.Set{{Col: -1}, {Col: 0}, {Col: 2}}}), api.Change{Kind: api.OUpdate, Sets: []api.Set{{Col: 0, Cell: number(7)}}})
	is(gone.Undo(api.Change{Kind: api.OUpdate, Sets: to("z")}), api.Change{Kind: api.OUpdate})
	is(gone.Undo(api.Change{Time: 6}), api.Change{Time: 6})
	// What is answered isn't the state's own.
	there.Undo(api.Change{Kind: api.OUpdate, Sets: to("z")}).Sets[0].Cell.B[0] = 'q'
	there.Undo(api.Change{Kind: api.ODelete}).Row[1].B[0] = 'q'
	if got, live := there.Tell(); !live || !sameRow(got, row(7, "x")) || !sameRow(first, row(7, "x")) {
		t.Errorf("with what was answered the state changes to %v, %t", got, live)
	}
}
