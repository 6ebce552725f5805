package schema_test

import (
	"bytes"
	"math"
	"math/rand/v2"
	"slices"
	"strconv"
	"strings"
	"testing"

	"stoa/api"
	"stoa/cell"
	"stoa/schema"
	"stoa/vint"
)

// huge are numbers that are small ones in their lowest bits.
var huge = []int{math.MinInt, math.MinInt + 1, -1 << 32, -256, 1 << 8, 1<<8 + 1, 1 << 32, 1<<32 + 1, 1<<32 + 2, math.MaxInt}

func number(v int64) api.Cell {
	return api.Cell{Int: v}
}

func text(s string) api.Cell {
	return api.Cell{B: []byte(s)}
}

func null() api.Cell {
	return api.Cell{Null: true}
}

// small is the schema of the chapter's examples.
func small() api.Schema {
	return api.Schema{Cols: []api.Column{{Name: "id", Kind: api.KI32}, {Name: "name", Kind: api.KStr, Null: true}}, Keys: 1}
}

// flat is one whose cells have one byte or few, for all short bytes to be read by it.
func flat() api.Schema {
	return api.Schema{Cols: []api.Column{{Name: "a", Kind: api.KBool}, {Name: "b", Kind: api.KStr, Null: true}, {Name: "c", Kind: api.KI8}}, Keys: 1}
}

// wide has n columns of all kinds, half of those that aren't the key's with null.
func wide(n, keys int) api.Schema {
	s := api.Schema{Keys: keys}
	for i := range n {
		s.Cols = append(s.Cols, api.Column{Name: "c_" + strconv.Itoa(i), Kind: 1 + i%8, Null: i >= keys && i%2 == 1})
	}
	return s
}

func same(a, b api.Cell) bool {
	return a.Null == b.Null && a.Int == b.Int && bytes.Equal(a.B, b.B)
}

func sameSet(a, b api.Set) bool {
	return a.Col == b.Col && same(a.Cell, b.Cell)
}

func cloned(row []api.Cell) []api.Cell {
	row = slices.Clone(row)
	for i := range row {
		row[i].B = bytes.Clone(row[i].B)
	}
	return row
}

func clonedSets(sets []api.Set) []api.Set {
	sets = slices.Clone(sets)
	for i := range sets {
		sets[i].Cell.B = bytes.Clone(sets[i].Cell.B)
	}
	return sets
}

// The helpers beneath say in the plainest way what the chapter says, for a schema that is right.

func plainCells(cols []api.Column, cells []api.Cell) api.Errno {
	if len(cells) != len(cols) {
		return api.ErrCols
	}
	for i, col := range cols {
		if e := cell.Check(col.Kind, col.Null, cells[i]); e != api.OK {
			return e
		}
	}
	return api.OK
}

func plainSets(s api.Schema, sets []api.Set) api.Errno {
	if len(sets) == 0 {
		return api.ErrCols
	}
	for i, set := range sets {
		switch {
		case i > 0 && set.Col <= sets[i-1].Col:
			return api.ErrCols
		case set.Col >= 0 && set.Col < s.Keys:
			return api.ErrCols
		case set.Col < 0 || set.Col >= len(s.Cols):
			return api.ErrCols
		}
		if e := cell.Check(s.Cols[set.Col].Kind, s.Cols[set.Col].Null, set.Cell); e != api.OK {
			return e
		}
	}
	return api.OK
}

func plainOp(s api.Schema, op api.Op) api.Errno {
	first, last := api.ErrArg, api.OK
	if len(op.Sets) > 0 {
		last = api.ErrCols
	}
	switch op.Kind {
	case api.OInsert:
		first = plainCells(s.Cols, op.Row)
	case api.OUpdate:
		first, last = plainCells(s.Cols[:s.Keys], op.Row), plainSets(s, op.Sets)
	case api.ODelete:
		first = plainCells(s.Cols[:s.Keys], op.Row)
	}
	if first != api.OK {
		return first
	}
	return last
}

func plainPutRow(s api.Schema, row []api.Cell) []byte {
	var b []byte
	for i, c := range row {
		p, _ := cell.Put(s.Cols[i].Kind, c)
		b = slices.Concat(b, p)
	}
	return b
}

func plainPutSets(s api.Schema, sets []api.Set) []byte {
	b := vint.Put(uint64(len(sets)))
	for _, set := range sets {
		p, _ := cell.Put(s.Cols[set.Col].Kind, set.Cell)
		b = slices.Concat(b, vint.Put(uint64(set.Col)), p)
	}
	return b
}

func plainGetRow(s api.Schema, b []byte, at int) ([]api.Cell, int, api.Errno) {
	var row []api.Cell
	for _, col := range s.Cols {
		c, next, e := cell.Get(col.Kind, b, at)
		if e == api.OK && c.Null && !col.Null {
			e = api.ErrNull
		}
		if e != api.OK {
			return nil, 0, e
		}
		row, at = append(row, c), next
	}
	return row, at, api.OK
}

func plainGetSets(s api.Schema, b []byte, at int) ([]api.Set, int, api.Errno) {
	n, at, e := vint.Get(b, at)
	if e == api.OK && (n == 0 || n > 12) {
		e = api.ErrCols
	}
	var sets []api.Set
	for e == api.OK && uint64(len(sets)) < n {
		var u uint64
		var c api.Cell
		u, at, e = vint.Get(b, at)
		switch {
		case e != api.OK:
			return nil, 0, e
		case u < uint64(s.Keys) || u >= uint64(len(s.Cols)):
			return nil, 0, api.ErrCols
		case len(sets) > 0 && u <= uint64(sets[len(sets)-1].Col):
			return nil, 0, api.ErrCols
		}
		c, at, e = cell.Get(s.Cols[u].Kind, b, at)
		if e == api.OK && c.Null && !s.Cols[u].Null {
			e = api.ErrNull
		}
		sets = append(sets, api.Set{Col: int(u), Cell: c})
	}
	if e != api.OK {
		return nil, 0, e
	}
	return sets, at, api.OK
}

func wantCells(t *testing.T, what string, cells []api.Cell, e api.Errno, want []api.Cell, wantErr api.Errno) {
	t.Helper()
	if !slices.EqualFunc(cells, want, same) || e != wantErr {
		t.Errorf("%s = %v, %d; want %v, %d", what, cells, e, want, wantErr)
	}
}

func wantGetRow(t *testing.T, s api.Schema, b []byte, at int, want []api.Cell, wantNext int, wantErr api.Errno) {
	t.Helper()
	row, next, e := schema.GetRow(s, b, at)
	if !slices.EqualFunc(row, want, same) || next != wantNext || e != wantErr {
		t.Errorf("GetRow(%x, %d) = %v, %d, %d; want %v, %d, %d", b, at, row, next, e, want, wantNext, wantErr)
	}
}

func wantGetSets(t *testing.T, s api.Schema, b []byte, at int, want []api.Set, wantNext int, wantErr api.Errno) {
	t.Helper()
	sets, next, e := schema.GetSets(s, b, at)
	if !slices.EqualFunc(sets, want, sameSet) || next != wantNext || e != wantErr {
		t.Errorf("GetSets(%x, %d) = %v, %d, %d; want %v, %d, %d", b, at, sets, next, e, want, wantNext, wantErr)
	}
}

func wantBytes(t *testing.T, what string, b []byte, e api.Errno, want []byte, wantErr api.Errno) {
	t.Helper()
	if !bytes.Equal(b, want) || e != wantErr {
		t.Errorf("%s = %x, %d; want %x, %d", what, b, e, want, wantErr)
	}
}

// cellOf is some cell of a column, right or (one in so many) perhaps wrong.
func cellOf(rnd *rand.Rand, col api.Column, wrong int) api.Cell {
	if wrong > 0 && rnd.IntN(wrong) == 0 {
		c := api.Cell{Null: rnd.IntN(3) == 0, Int: int64(rnd.Uint64()) >> rnd.IntN(64), B: make([]byte, rnd.IntN(3))}
		if rnd.IntN(4) == 0 {
			c.B = make([]byte, 201)
		}
		return c
	}
	if col.Null && rnd.IntN(3) == 0 {
		return null()
	}
	if cell.Number(col.Kind) {
		least, most := int64(math.MinInt8), int64(math.MaxInt8)
		if col.Kind == api.KBool || col.Kind == api.KU16 {
			least, most = 0, 1
		}
		return number(least + rnd.Int64N(most-least+1))
	}
	return text(strings.Repeat("x", rnd.IntN(4)))
}

func rowOf(rnd *rand.Rand, cols []api.Column, wrong int) []api.Cell {
	var row []api.Cell
	for _, col := range cols {
		row = append(row, cellOf(rnd, col, wrong))
	}
	if wrong > 0 && rnd.IntN(wrong) == 0 {
		row = append(row, number(1))
	}
	if wrong > 0 && rnd.IntN(wrong) == 0 {
		row = row[:rnd.IntN(len(row))]
	}
	return row
}

func setsOf(rnd *rand.Rand, s api.Schema, wrong int) []api.Set {
	var sets []api.Set
	for i := s.Keys; i < len(s.Cols); i++ {
		if rnd.IntN(2) == 0 {
			sets = append(sets, api.Set{Col: i, Cell: cellOf(rnd, s.Cols[i], wrong)})
		}
	}
	if wrong > 0 && len(sets) > 0 && rnd.IntN(wrong) == 0 {
		sets[rnd.IntN(len(sets))].Col = rnd.IntN(len(s.Cols)+3) - 1
	}
	return sets
}

func schemaOf(rnd *rand.Rand) api.Schema {
	n := 1 + rnd.IntN(12)
	s := wide(n, 1+rnd.IntN(min(3, n)))
	for i := range s.Cols {
		s.Cols[i].Kind = 1 + rnd.IntN(8)
	}
	return s
}

// wrongs are schemas that are not right, each in one way alone.
func wrongs() []api.Schema {
	out := []api.Schema{{}, {Keys: 1}, wide(13, 1), wide(13, 3), wide(1000, 1), wide(5, 0), wide(5, 4), wide(12, 4), wide(12, 12)}
	for n := 1; n <= 3; n++ {
		s := wide(n, n)
		s.Keys++
		out = append(out, s)
	}
	for _, keys := range slices.Concat(huge, []int{-3, -1, 5, 13}) {
		s := wide(5, 2)
		s.Keys = keys
		out = append(out, s)
	}
	bent := func(bend func(col *api.Column)) {
		for _, i := range []int{0, 2, 3, 11} {
			s := wide(12, 3)
			bend(&s.Cols[i])
			out = append(out, s)
		}
	}
	for _, name := range []string{"", strings.Repeat("a", 25), strings.Repeat("_", 1<<16), "A", "a b", "ä", "a\x00", " a", "a ", "a-b", "\xff", "a.b"} {
		bent(func(col *api.Column) { col.Name = name })
	}
	for _, kind := range slices.Concat(huge, []int{-1, 0, 9, 10, 16}) {
		bent(func(col *api.Column) { col.Kind = kind })
	}
	for i := range 3 {
		s := wide(12, 3)
		s.Cols[i].Null = true
		out = append(out, s)
	}
	for j := range 12 {
		for i := range j {
			s := wide(12, 3)
			s.Cols[j].Name = s.Cols[i].Name
			out = append(out, s)
		}
	}
	return out
}

// P6.1.
func TestCheckOfRight(t *testing.T) {
	right := []api.Schema{small(), flat()}
	for n := 1; n <= 12; n++ {
		for keys := 1; keys <= min(n, 3); keys++ {
			right = append(right, wide(n, keys))
		}
	}
	for kind := 1; kind <= 8; kind++ {
		right = append(right, api.Schema{Cols: []api.Column{{Name: "k", Kind: kind}, {Name: "v", Kind: kind, Null: true}}, Keys: 1})
	}
	for _, name := range []string{"a", "z", "0", "9", "_", "__", "0a", "abcdefghijklmnopqrstuvwx", "yz_0123456789", strings.Repeat("_", 24)} {
		right = append(right, api.Schema{Cols: []api.Column{{Name: name, Kind: 1}, {Name: "other", Kind: 1}}, Keys: 1})
	}
	for _, s := range right {
		if e := schema.Check(s); e != api.OK {
			t.Errorf("Check(%v) = %d", s, e)
		}
	}
}

// P6.1.
func TestCheckOfWrong(t *testing.T) {
	for _, s := range wrongs() {
		if e := schema.Check(s); e != api.ErrSchema {
			t.Errorf("Check(%v) = %d", s, e)
		}
	}
}

// P6.1: each byte at each place of a name.
func TestCheckOfNames(t *testing.T) {
	for c := range 256 {
		for n := 1; n <= 24; n++ {
			for _, at := range []int{0, n / 2, n - 1} {
				name := bytes.Repeat([]byte("b"), n)
				name[at] = byte(c)
				want := api.ErrSchema
				if strings.IndexByte("abcdefghijklmnopqrstuvwxyz0123456789_", byte(c)) >= 0 {
					want = api.OK
				}
				s := small()
				s.Cols[1].Name = string(name)
				if e := schema.Check(s); e != want {
					t.Errorf("Check with the name %q = %d", name, e)
				}
			}
		}
	}
}

// P6.1, P6.2, P6.3, P1: a schema that isn't right is told ahead of all else.
func TestSchemaFirst(t *testing.T) {
	rnd := rand.New(rand.NewPCG(6, 1))
	for _, s := range append(wrongs(), api.Schema{Cols: make([]api.Column, 2), Keys: 1}) {
		for wrong := range 4 {
			row, sets := rowOf(rnd, small().Cols, wrong), []api.Set{{Col: 1, Cell: cellOf(rnd, small().Cols[1], wrong)}}
			if wrong == 0 {
				row = rowOf(rnd, s.Cols, 0)
			}
			op := api.Op{Kind: wrong, Row: row, Sets: sets}
			for i, e := range []api.Errno{schema.Row(s, row), schema.Key(s, row), schema.Sets(s, sets), schema.Op(s, op)} {
				if e != api.ErrSchema {
					t.Errorf("check %d by %v = %d", i, s, e)
				}
			}
			cells, e := schema.Apply(s, row, sets)
			wantCells(t, "Apply", cells, e, nil, api.ErrSchema)
			cells, e = schema.Project(s, row, []int{0, 77})
			wantCells(t, "Project", cells, e, nil, api.ErrSchema)
			b, e := schema.PutRow(s, row)
			wantBytes(t, "PutRow", b, e, nil, api.ErrSchema)
			b, e = schema.PutSets(s, sets)
			wantBytes(t, "PutSets", b, e, nil, api.ErrSchema)
			for _, at := range []int{-1, 0, 1, 99} {
				wantGetRow(t, s, plainPutSets(small(), []api.Set{{Col: 1, Cell: null()}}), at, nil, 0, api.ErrSchema)
				wantGetSets(t, s, []byte{1, 1, 0}, at, nil, 0, api.ErrSchema)
			}
		}
	}
}

// P6.1: how many cells a row and a key have.
func TestHowManyCells(t *testing.T) {
	rnd := rand.New(rand.NewPCG(6, 2))
	for n := 1; n <= 12; n++ {
		for keys := 1; keys <= min(n, 3); keys++ {
			s := wide(n, keys)
			row := rowOf(rnd, s.Cols, 0)
			long := append(slices.Clone(row), make([]api.Cell, 20)...)
			for m := range long {
				wantRow, wantKey := api.ErrCols, api.ErrCols
				if m == n {
					wantRow = api.OK
				}
				if m == keys {
					wantKey = api.OK
				}
				if e := schema.Row(s, long[:m]); e != wantRow {
					t.Errorf("Row of %d cells of %d = %d", m, n, e)
				}
				if e := schema.Key(s, long[:m]); e != wantKey {
					t.Errorf("Key of %d cells of %d = %d", m, keys, e)
				}
			}
		}
	}
}

// P6.1: each error of rows and keys, and which one is named first.
func TestRowErrors(t *testing.T) {
	s := api.Schema{Cols: []api.Column{{Name: "a", Kind: api.KI8}, {Name: "b", Kind: api.KStr}, {Name: "c", Kind: api.KI16}, {Name: "d", Kind: api.KBytes, Null: true}}, Keys: 2}
	long := text(strings.Repeat("x", 201))
	for _, x := range []struct {
		row      []api.Cell
		whole, k api.Errno
	}{
		{nil, api.ErrCols, api.ErrCols},
		{[]api.Cell{number(128)}, api.ErrCols, api.ErrCols},
		{[]api.Cell{number(1), text("b"), number(2), text("d")}, api.OK, api.ErrCols},
		{[]api.Cell{number(1), text("b"), number(2), null()}, api.OK, api.ErrCols},
		{[]api.Cell{number(1), text("b"), null(), null()}, api.ErrNull, api.ErrCols},
		{[]api.Cell{number(128), long, null(), long}, api.ErrRange, api.ErrCols},
		{[]api.Cell{number(127), long, null(), long}, api.ErrLong, api.ErrCols},
		{[]api.Cell{number(127), text("\x00"), null(), long}, api.ErrForm, api.ErrCols},
		{[]api.Cell{number(127), text(""), number(1), long}, api.ErrLong, api.ErrCols},
		{[]api.Cell{number(127), text(""), text("a"), long}, api.ErrKind, api.ErrCols},
		{[]api.Cell{number(127), text(""), number(1), {Null: true, Int: 1}}, api.ErrKind, api.ErrCols},
		{[]api.Cell{null(), long, number(1), null()}, api.ErrNull, api.ErrCols},
		{[]api.Cell{number(1), text("b")}, api.ErrCols, api.OK},
		{[]api.Cell{null(), text("\x00")}, api.ErrCols, api.ErrNull},
		{[]api.Cell{number(-129), text("\x00")}, api.ErrCols, api.ErrRange},
		{[]api.Cell{number(-128), text("\x00")}, api.ErrCols, api.ErrForm},
		{[]api.Cell{number(-128), number(1)}, api.ErrCols, api.ErrKind},
	} {
		if e := schema.Row(s, x.row); e != x.whole {
			t.Errorf("Row(%v) = %d; want %d", x.row, e, x.whole)
		}
		if e := schema.Key(s, x.row); e != x.k {
			t.Errorf("Key(%v) = %d; want %d", x.row, e, x.k)
		}
		if _, e := schema.PutRow(s, x.row); e != x.whole {
			t.Errorf("PutRow(%v) = %d; want %d", x.row, e, x.whole)
		}
	}
}

// P6.1: each error of sets, and which one is named first.
func TestSetsErrors(t *testing.T) {
	s := wide(12, 3) // column 3 is a KI64 with null, 4 a KU16 without, 11 a KI32 with
	set := func(col int, c api.Cell) api.Set { return api.Set{Col: col, Cell: c} }
	for _, x := range []struct {
		sets []api.Set
		e    api.Errno
	}{
		{nil, api.ErrCols},
		{[]api.Set{}, api.ErrCols},
		{[]api.Set{set(3, null())}, api.OK},
		{[]api.Set{set(11, null())}, api.OK},
		{[]api.Set{set(3, null()), set(4, number(65535)), set(11, number(-1))}, api.OK},
		{[]api.Set{set(0, number(1))}, api.ErrCols},
		{[]api.Set{set(2, number(1))}, api.ErrCols},
		{[]api.Set{set(12, number(1))}, api.ErrCols},
		{[]api.Set{set(-1, number(1))}, api.ErrCols},
		{[]api.Set{set(3, null()), set(3, null())}, api.ErrCols},
		{[]api.Set{set(4, number(1)), set(3, null())}, api.ErrCols},
		{[]api.Set{set(3, null()), set(12, null())}, api.ErrCols},
		{[]api.Set{set(3, null()), set(2, null())}, api.ErrCols},
		{[]api.Set{set(3, null()), set(-1, null())}, api.ErrCols},
		{[]api.Set{set(4, null())}, api.ErrNull},
		{[]api.Set{set(4, number(65536))}, api.ErrRange},
		{[]api.Set{set(4, text("a"))}, api.ErrKind},
		{[]api.Set{set(3, api.Cell{Null: true, Int: 1})}, api.ErrKind},
		// Set by set, a set's column ahead of its cell.
		{[]api.Set{set(2, number(math.MaxInt64))}, api.ErrCols},
		{[]api.Set{set(4, number(65536)), set(4, number(1))}, api.ErrRange},
		{[]api.Set{set(4, number(1)), set(4, number(65536))}, api.ErrCols},
		{[]api.Set{set(4, null()), set(0, null())}, api.ErrNull},
		{[]api.Set{set(4, text("a")), set(5, number(2))}, api.ErrKind},
		{[]api.Set{set(4, number(1)), set(5, number(2)), set(99, null())}, api.ErrRange},
		{[]api.Set{set(0, null()), set(4, number(65536))}, api.ErrCols},
	} {
		if e := schema.Sets(s, x.sets); e != x.e {
			t.Errorf("Sets(%v) = %d; want %d", x.sets, e, x.e)
		}
		if _, e := schema.PutSets(s, x.sets); e != x.e {
			t.Errorf("PutSets(%v) = %d; want %d", x.sets, e, x.e)
		}
	}
	for _, col := range huge {
		if e := schema.Sets(s, []api.Set{set(col, null())}); e != api.ErrCols {
			t.Errorf("Sets of column %d = %d", col, e)
		}
		if e := schema.Sets(s, []api.Set{set(3, null()), set(col, null())}); e != api.ErrCols {
			t.Errorf("Sets of column %d behind 3 = %d", col, e)
		}
	}
	if e := schema.Sets(wide(3, 3), []api.Set{set(3, null())}); e != api.ErrCols {
		t.Errorf("Sets where there is nothing but the key = %d", e)
	}
}

// P6.1: each error of operations, and which one is named first.
func TestOpErrors(t *testing.T) {
	s := small()
	row, key, none := []api.Cell{number(7), text("x")}, []api.Cell{number(7)}, []api.Cell{null()}
	sets, bad := []api.Set{{Col: 1, Cell: text("y")}}, []api.Set{{Col: 1, Cell: number(1)}}
	for _, x := range []struct {
		op api.Op
		e  api.Errno
	}{
		{api.Op{}, api.ErrArg},
		{api.Op{Kind: 4, Row: row}, api.ErrArg},
		{api.Op{Kind: 0, Row: row, Sets: sets}, api.ErrArg},
		{api.Op{Kind: api.OInsert, Row: row}, api.OK},
		{api.Op{Kind: api.OInsert, Row: row, Sets: []api.Set{}}, api.OK},
		{api.Op{Kind: api.OInsert, Row: []api.Cell{number(7), null()}}, api.OK},
		{api.Op{Kind: api.OInsert, Row: key}, api.ErrCols},
		{api.Op{Kind: api.OInsert}, api.ErrCols},
		{api.Op{Kind: api.OInsert, Row: row, Sets: sets}, api.ErrCols},
		{api.Op{Kind: api.OInsert, Row: row, Sets: bad}, api.ErrCols},
		{api.Op{Kind: api.OInsert, Row: []api.Cell{null(), text("x")}, Sets: sets}, api.ErrNull},
		{api.Op{Kind: api.OInsert, Row: []api.Cell{number(7), text("\x00")}}, api.ErrForm},
		{api.Op{Kind: api.OUpdate, Row: key, Sets: sets}, api.OK},
		{api.Op{Kind: api.OUpdate, Row: row, Sets: bad}, api.ErrCols},
		{api.Op{Kind: api.OUpdate, Row: key}, api.ErrCols},
		{api.Op{Kind: api.OUpdate, Row: key, Sets: bad}, api.ErrKind},
		{api.Op{Kind: api.OUpdate, Row: none, Sets: bad}, api.ErrNull},
		{api.Op{Kind: api.OUpdate, Row: none}, api.ErrNull},
		{api.Op{Kind: api.OUpdate, Row: key, Sets: []api.Set{{Col: 0, Cell: number(1)}}}, api.ErrCols},
		{api.Op{Kind: api.OUpdate, Row: key, Sets: []api.Set{{Col: 1, Cell: null()}}}, api.OK},
		{api.Op{Kind: api.ODelete, Row: key}, api.OK},
		{api.Op{Kind: api.ODelete, Row: key, Sets: []api.Set{}}, api.OK},
		{api.Op{Kind: api.ODelete, Row: row}, api.ErrCols},
		{api.Op{Kind: api.ODelete, Row: none}, api.ErrNull},
		{api.Op{Kind: api.ODelete, Row: none, Sets: sets}, api.ErrNull},
		{api.Op{Kind: api.ODelete, Row: key, Sets: sets}, api.ErrCols},
		{api.Op{Kind: api.ODelete, Row: key, Sets: bad}, api.ErrCols},
	} {
		if e := schema.Op(s, x.op); e != x.e {
			t.Errorf("Op(%v) = %d; want %d", x.op, e, x.e)
		}
	}
	for _, kind := range slices.Concat(huge, []int{-1, 0, 4, 5}) {
		for _, r := range [][]api.Cell{row, key, none, nil} {
			if e := schema.Op(s, api.Op{Kind: kind, Row: r, Sets: bad}); e != api.ErrArg {
				t.Errorf("Op of kind %d = %d", kind, e)
			}
		}
	}
}

// P6.1: rows, sets and operations of all sorts, right ones and wrong ones.
func TestChecksOfAny(t *testing.T) {
	rnd := rand.New(rand.NewPCG(6, 3))
	told := map[api.Errno]int{}
	for range 30000 {
		s, wrong := schemaOf(rnd), 2+rnd.IntN(20)
		row, sets := rowOf(rnd, s.Cols, wrong), setsOf(rnd, s, wrong)
		key := rowOf(rnd, s.Cols[:s.Keys], wrong)
		if e, want := schema.Row(s, row), plainCells(s.Cols, row); e != want {
			t.Errorf("Row(%v, %v) = %d; want %d", s, row, e, want)
		}
		if e, want := schema.Key(s, key), plainCells(s.Cols[:s.Keys], key); e != want {
			t.Errorf("Key(%v, %v) = %d; want %d", s, key, e, want)
		}
		if e, want := schema.Sets(s, sets), plainSets(s, sets); e != want {
			t.Errorf("Sets(%v, %v) = %d; want %d", s, sets, e, want)
		}
		for kind := range 5 {
			for _, r := range [][]api.Cell{row, key} {
				op := api.Op{Kind: kind, Row: r, Sets: sets[:rnd.IntN(len(sets)+1)]}
				e, want := schema.Op(s, op), plainOp(s, op)
				if e != want {
					t.Errorf("Op(%v, %v) = %d; want %d", s, op, e, want)
				}
				told[e]++
			}
		}
	}
	for _, e := range []api.Errno{api.OK, api.ErrArg, api.ErrCols, api.ErrNull, api.ErrKind, api.ErrRange, api.ErrLong, api.ErrForm} {
		if told[e] == 0 {
			t.Errorf("no operation told %d", e)
		}
	}
}

// P6.2.
func TestApply(t *testing.T) {
	s := small()
	row := []api.Cell{number(7), text("x")}
	for _, x := range []struct {
		row  []api.Cell
		sets []api.Set
		want []api.Cell
		e    api.Errno
	}{
		{row, []api.Set{{Col: 1, Cell: text("yy")}}, []api.Cell{number(7), text("yy")}, api.OK},
		{row, []api.Set{{Col: 1, Cell: null()}}, []api.Cell{number(7), null()}, api.OK},
		{row[:1], nil, nil, api.ErrCols},
		{row, nil, nil, api.ErrCols},
		{row, []api.Set{{Col: 0, Cell: number(8)}}, nil, api.ErrCols},
		{row, []api.Set{{Col: 1, Cell: number(8)}}, nil, api.ErrKind},
		{[]api.Cell{null(), text("x")}, []api.Set{{Col: 1, Cell: number(8)}}, nil, api.ErrNull},
		{[]api.Cell{null(), text("x")}, nil, nil, api.ErrNull},
	} {
		cells, e := schema.Apply(s, x.row, x.sets)
		wantCells(t, "Apply", cells, e, x.want, x.e)
	}
}

// P6.2: any rows and sets: the row's error, then the sets', then the row with the cells of the sets.
func TestApplyOfAny(t *testing.T) {
	rnd := rand.New(rand.NewPCG(6, 4))
	for range 20000 {
		s, wrong := schemaOf(rnd), rnd.IntN(30)
		row, sets := rowOf(rnd, s.Cols, wrong), setsOf(rnd, s, wrong)
		want, wantErr := cloned(row), plainCells(s.Cols, row)
		if wantErr == api.OK {
			wantErr = plainSets(s, sets)
		}
		for _, set := range sets {
			if wantErr == api.OK {
				want[set.Col] = set.Cell
			}
		}
		if wantErr != api.OK {
			want = nil
		}
		cells, e := schema.Apply(s, row, sets)
		wantCells(t, "Apply", cells, e, want, wantErr)
	}
}

// P6.2.
func TestProject(t *testing.T) {
	s := small()
	row := []api.Cell{number(7), text("x")}
	for _, x := range []struct {
		row  []api.Cell
		cols []int
		want []api.Cell
		e    api.Errno
	}{
		{row, []int{1, 0}, []api.Cell{text("x"), number(7)}, api.OK},
		{row, []int{1, 1, 0, 1}, []api.Cell{text("x"), text("x"), number(7), text("x")}, api.OK},
		{row, []int{0}, []api.Cell{number(7)}, api.OK},
		{row, nil, nil, api.OK},
		{row, []int{}, nil, api.OK},
		{row, []int{2}, nil, api.ErrCols},
		{row, []int{0, -1}, nil, api.ErrCols},
		{row, []int{0, 1, 2, 0}, nil, api.ErrCols},
		{row[:1], []int{0}, nil, api.ErrCols},
		{row[:1], nil, nil, api.ErrCols},
		{[]api.Cell{null(), text("x")}, []int{1, 2}, nil, api.ErrNull},
		{[]api.Cell{number(7), text("\x00")}, []int{0}, nil, api.ErrForm},
	} {
		cells, e := schema.Project(s, x.row, x.cols)
		wantCells(t, "Project", cells, e, x.want, x.e)
	}
	for _, col := range huge {
		cells, e := schema.Project(s, row, []int{1, col})
		wantCells(t, "Project", cells, e, nil, api.ErrCols)
	}
	cells, e := schema.Project(s, row, make([]int, 5000))
	wantCells(t, "Project", cells, e, slices.Repeat(row[:1], 5000), api.OK)
}

// P6.2: any rows and columns.
func TestProjectOfAny(t *testing.T) {
	rnd := rand.New(rand.NewPCG(6, 5))
	for range 10000 {
		s := schemaOf(rnd)
		row := rowOf(rnd, s.Cols, 0)
		var cols []int
		var want []api.Cell
		for range rnd.IntN(20) {
			cols = append(cols, rnd.IntN(len(row)))
			want = append(want, row[cols[len(cols)-1]])
		}
		cells, e := schema.Project(s, row, cols)
		wantCells(t, "Project", cells, e, want, api.OK)
	}
}

// P6.3: the bytes as the chapter says them.
func TestExamples(t *testing.T) {
	s := small()
	row := []api.Cell{number(7), text("x")}
	b, e := schema.PutRow(s, row)
	wantBytes(t, "PutRow", b, e, []byte{1, 0x0e, 1, 1, 'x'}, api.OK)
	wantGetRow(t, s, b, 0, row, 5, api.OK)
	b, e = schema.PutRow(s, []api.Cell{number(-1), null()})
	wantBytes(t, "PutRow", b, e, []byte{1, 1, 0}, api.OK)
	wantGetRow(t, s, b, 0, []api.Cell{number(-1), null()}, 3, api.OK)
	sets := []api.Set{{Col: 1, Cell: text("x")}}
	b, e = schema.PutSets(s, sets)
	wantBytes(t, "PutSets", b, e, []byte{1, 1, 1, 1, 'x'}, api.OK)
	wantGetSets(t, s, b, 0, sets, 5, api.OK)
	sets = []api.Set{{Col: 1, Cell: null()}, {Col: 2, Cell: number(-3)}}
	b, e = schema.PutSets(flat(), sets)
	wantBytes(t, "PutSets", b, e, []byte{2, 1, 0, 2, 1, 5}, api.OK)
	wantGetSets(t, flat(), b, 0, sets, 6, api.OK)
	if schema.Row(s, row[:1]) != api.ErrCols || schema.Row(s, []api.Cell{null(), text("x")}) != api.ErrNull {
		t.Error("Row of 7 alone, and of null and x")
	}
}

// P6.3, P3: any right rows and sets, with other bytes ahead and behind, and cut anywhere.
func TestPutAndBack(t *testing.T) {
	rnd := rand.New(rand.NewPCG(6, 6))
	for range 2000 {
		s := schemaOf(rnd)
		row, sets := rowOf(rnd, s.Cols, 0), setsOf(rnd, s, 0)
		p := plainPutRow(s, row)
		b, e := schema.PutRow(s, row)
		wantBytes(t, "PutRow", b, e, p, api.OK)
		wantGetRow(t, s, b, 0, row, len(b), api.OK)
		wantGetRow(t, s, slices.Concat([]byte{7, 1, 0}, b, b), 3, row, 3+len(b), api.OK)
		for cut := range b {
			wantGetRow(t, s, b[:cut], 0, nil, 0, api.ErrShort)
		}
		if len(sets) == 0 {
			continue
		}
		p = plainPutSets(s, sets)
		b, e = schema.PutSets(s, sets)
		wantBytes(t, "PutSets", b, e, p, api.OK)
		wantGetSets(t, s, b, 0, sets, len(b), api.OK)
		wantGetSets(t, s, slices.Concat([]byte{7, 1, 0}, b, b), 3, sets, 3+len(b), api.OK)
		for cut := range b {
			wantGetSets(t, s, b[:cut], 0, nil, 0, api.ErrShort)
		}
	}
}

// P6.3: as many columns and as long texts as there may be.
func TestGreatest(t *testing.T) {
	s := wide(12, 1)
	for i := range s.Cols {
		s.Cols[i].Kind = api.KBytes
	}
	var row []api.Cell
	var sets []api.Set
	for i := range 12 {
		row = append(row, text(strings.Repeat(string(rune('a'+i)), 200)))
		sets = append(sets, api.Set{Col: i, Cell: row[i]})
	}
	b, e := schema.PutRow(s, row)
	wantBytes(t, "PutRow", b, e, plainPutRow(s, row), api.OK)
	wantGetRow(t, s, b, 0, row, 12*203, api.OK)
	b, e = schema.PutSets(s, sets[1:])
	wantBytes(t, "PutSets", b, e, plainPutSets(s, sets[1:]), api.OK)
	wantGetSets(t, s, b, 0, sets[1:], 1+11*204, api.OK)
	row[11] = text(strings.Repeat("x", 201))
	b, e = schema.PutRow(s, row)
	wantBytes(t, "PutRow", b, e, nil, api.ErrLong)
}

// P6.3, P1: places below 0, at the end and behind it, ahead of what the bytes say.
func TestGetPlaces(t *testing.T) {
	b := []byte{1, 2, 1, 1, 'x'}
	for _, at := range []int{math.MinInt, -2, -1, 6, 7, math.MaxInt} {
		wantGetRow(t, small(), b, at, nil, 0, api.ErrArg)
		wantGetRow(t, small(), []byte{9, 9, 9, 9, 9}, at, nil, 0, api.ErrArg)
		wantGetSets(t, small(), b, at, nil, 0, api.ErrArg)
		wantGetSets(t, small(), []byte{0, 0, 0, 0, 0}, at, nil, 0, api.ErrArg)
	}
	for _, at := range []int{0, 5} {
		wantGetRow(t, small(), b[:at], at, nil, 0, api.ErrShort)
		wantGetSets(t, small(), b[:at], at, nil, 0, api.ErrShort)
	}
	wantGetRow(t, small(), b[:3], 4, nil, 0, api.ErrArg) // what lies behind the length isn't there
	wantGetSets(t, small(), b[:3], 4, nil, 0, api.ErrArg)
}

// P6.3: each error of reading a row, and which one is named first.
func TestGetRowErrors(t *testing.T) {
	s := api.Schema{Cols: []api.Column{{Name: "a", Kind: api.KI8}, {Name: "b", Kind: api.KStr}, {Name: "c", Kind: api.KBool, Null: true}}, Keys: 1}
	for _, x := range []struct {
		b []byte
		e api.Errno
	}{
		{[]byte{0}, api.ErrNull},
		{[]byte{0, 9, 9}, api.ErrNull},
		{[]byte{2, 0, 0}, api.ErrForm},
		{[]byte{1}, api.ErrShort},
		{[]byte{1, 0x80, 0}, api.ErrForm},
		{[]byte{1, 0x80, 2, 9}, api.ErrRange},
		{[]byte{1, 0xff, 0xff, 0xff, 0xff, 0xff, 0xff, 0xff, 0xff, 0xff, 2}, api.ErrWide},
		{[]byte{1, 2}, api.ErrShort},
		{[]byte{1, 2, 0}, api.ErrNull},
		{[]byte{1, 2, 0, 1, 4}, api.ErrNull},
		{[]byte{1, 2, 1, 0xc9, 1}, api.ErrLong},
		{[]byte{1, 2, 1, 1, 0}, api.ErrForm},
		{[]byte{1, 2, 1, 1, 'x'}, api.ErrShort},
		{[]byte{1, 2, 1, 1, 'x', 1, 4}, api.ErrRange},
		{[]byte{1, 2, 1, 1, 'x', 2}, api.ErrForm},
	} {
		wantGetRow(t, s, x.b, 0, nil, 0, x.e)
	}
	wantGetRow(t, s, []byte{1, 2, 1, 1, 'x', 0}, 0, []api.Cell{number(1), text("x"), null()}, 6, api.OK)
}

// P6.3: each error of reading sets, and which one is named first.
func TestGetSetsErrors(t *testing.T) {
	s := wide(12, 3) // column 3 is a KI64 with null, 4 a KU16 without, 6 a KStr without
	for _, x := range []struct {
		b []byte
		e api.Errno
	}{
		{[]byte{0x80, 0}, api.ErrForm},
		{[]byte{0xff, 0xff, 0xff, 0xff, 0xff, 0xff, 0xff, 0xff, 0xff, 2}, api.ErrWide},
		{[]byte{0}, api.ErrCols},
		{[]byte{0, 3, 0}, api.ErrCols},
		{[]byte{13}, api.ErrCols},
		{[]byte{13, 0x80, 0}, api.ErrCols},
		{vint.Put(1 << 32), api.ErrCols},
		{append(vint.Put(1<<32+1), 3, 0), api.ErrCols},
		{vint.Put(math.MaxUint64), api.ErrCols},
		{[]byte{12}, api.ErrShort},
		{[]byte{12, 11, 0}, api.ErrShort},
		{[]byte{12, 11, 0, 11, 0}, api.ErrCols},
		{[]byte{1, 0x80}, api.ErrShort},
		{[]byte{1, 0x83, 0, 0}, api.ErrForm},
		{[]byte{1, 2}, api.ErrCols},
		{[]byte{1, 0, 9}, api.ErrCols},
		{[]byte{1, 12, 9}, api.ErrCols},
		{slices.Concat([]byte{1}, vint.Put(1<<32+3), []byte{0}), api.ErrCols},
		{slices.Concat([]byte{1}, vint.Put(1<<63+3), []byte{0}), api.ErrCols},
		{slices.Concat([]byte{1}, vint.Put(math.MaxUint64), []byte{0}), api.ErrCols},
		{[]byte{1, 3}, api.ErrShort},
		{[]byte{1, 3, 2}, api.ErrForm},
		{[]byte{1, 4, 0}, api.ErrNull},
		{[]byte{2, 4, 0, 4}, api.ErrNull},
		{[]byte{1, 4, 1, 1}, api.ErrRange},
		{[]byte{1, 6, 1, 0xc9, 1}, api.ErrLong},
		{[]byte{1, 6, 1, 1, 0}, api.ErrForm},
		{[]byte{2, 3, 0}, api.ErrShort},
		{[]byte{2, 3, 0, 3, 0}, api.ErrCols},
		{[]byte{2, 4, 1, 2, 3, 0}, api.ErrCols},
		{[]byte{2, 3, 0, 2}, api.ErrCols},
		{[]byte{2, 3, 0, 12}, api.ErrCols},
		{[]byte{2, 3, 0, 4, 0}, api.ErrNull},
	} {
		wantGetSets(t, s, x.b, 0, nil, 0, x.e)
	}
	wantGetSets(t, s, []byte{1, 11, 0, 9}, 0, []api.Set{{Col: 11, Cell: null()}}, 3, api.OK)
	wantGetSets(t, wide(3, 3), []byte{1, 3, 0}, 0, nil, 0, api.ErrCols)
}

// got holds a place against the plain readings; what is got is written so.
func got(t *testing.T, s api.Schema, b []byte, at int) {
	t.Helper()
	row, rowNext, e := plainGetRow(s, b, at)
	wantGetRow(t, s, b, at, row, rowNext, e)
	if e == api.OK {
		p, e := schema.PutRow(s, row)
		wantBytes(t, "PutRow", p, e, b[at:rowNext], api.OK)
	}
	sets, setsNext, e := plainGetSets(s, b, at)
	wantGetSets(t, s, b, at, sets, setsNext, e)
	if e == api.OK {
		p, e := schema.PutSets(s, sets)
		wantBytes(t, "PutSets", p, e, b[at:setsNext], api.OK)
	}
}

// P6.3, P3: all tricky bytes of up to six.
func TestGetAllShort(t *testing.T) {
	b := make([]byte, 0, 6)
	var all func()
	all = func() {
		got(t, flat(), b, 0)
		if len(b) == cap(b) {
			return
		}
		for _, c := range []byte{0, 1, 2, 3, 'a', 0x80} {
			b = append(b, c)
			all()
			b = b[:len(b)-1]
		}
	}
	all()
}

// P6.3, P3: rows and sets of any schema, with a byte changed somewhere.
func TestGetOfAnyBytes(t *testing.T) {
	rnd := rand.New(rand.NewPCG(6, 7))
	for range 10000 {
		s := schemaOf(rnd)
		b := plainPutRow(s, rowOf(rnd, s.Cols, 0))
		if sets := setsOf(rnd, s, 0); len(sets) > 0 && rnd.IntN(2) == 0 {
			b = plainPutSets(s, sets)
		}
		b[rnd.IntN(len(b))] ^= byte(rnd.Uint32()) & byte(rnd.Uint32())
		for at := range min(3, len(b)) {
			got(t, s, b, at)
		}
	}
}

// fill writes over a list, and over its spare room.
func fill[T any](s []T, v T) {
	s = s[:cap(s)]
	for i := range s {
		s[i] = v
	}
}

// roomy is the row with a spare room behind each text, which has other bytes.
func roomy(row []api.Cell) []api.Cell {
	row = cloned(row)
	for i, c := range row {
		row[i].B = append(slices.Clone(c.B), "spare"...)[:len(c.B)]
	}
	return append(row, number(99))[:len(row)]
}

func roomySets(sets []api.Set) []api.Set {
	sets = clonedSets(sets)
	for i, set := range sets {
		sets[i].Cell.B = append(slices.Clone(set.Cell.B), "spare"...)[:len(set.Cell.B)]
	}
	return append(sets, api.Set{Col: 99})[:len(sets)]
}

// callAll does each call of the layer.
func callAll(s api.Schema, row []api.Cell, sets []api.Set, cols []int, b []byte) {
	schema.Check(s)
	schema.Row(s, row)
	schema.Key(s, row)
	schema.Sets(s, sets)
	for kind := range 4 {
		schema.Op(s, api.Op{Kind: kind, Row: row, Sets: sets})
		schema.Op(s, api.Op{Kind: kind, Row: row[:s.Keys], Sets: sets})
	}
	schema.Apply(s, row, sets)
	schema.Project(s, row, cols)
	schema.PutRow(s, row)
	schema.PutSets(s, sets)
	for at := range len(b) + 1 {
		schema.GetRow(s, b, at)
		schema.GetSets(s, b, at)
	}
}

// P6.4: arguments stay as they are, what lies behind their length too.
func TestArgumentsStay(t *testing.T) {
	rnd := rand.New(rand.NewPCG(6, 8))
	for range 2000 {
		s := schemaOf(rnd)
		row, sets := roomy(rowOf(rnd, s.Cols, 0)), roomySets(setsOf(rnd, s, 0))
		cols := append(make([]int, 0, 9), rnd.IntN(len(row)), rnd.IntN(len(row)))
		b := append(plainPutRow(s, row), "spare"...)
		wantCols, wantRow, wantSets := slices.Clone(s.Cols), roomy(row), roomySets(sets)
		wantB, order := slices.Clone(b), slices.Clone(cols[:9])
		callAll(s, row, sets, cols, b[:len(b)-5])
		if !slices.Equal(s.Cols, wantCols) || !bytes.Equal(b, wantB) || !slices.Equal(cols[:9], order) {
			t.Errorf("the schema, the bytes or the columns became %v, %x, %v", s, b, cols)
		}
		whole := func(a, b api.Cell) bool {
			return same(a, b) && (a.Int == 99 || bytes.Equal(a.B[:len(a.B)+5], b.B[:len(b.B)+5]))
		}
		if !slices.EqualFunc(row[:len(row)+1], wantRow[:len(row)+1], whole) {
			t.Errorf("the row became %v", row)
		}
		wholeSet := func(a, b api.Set) bool { return a.Col == b.Col && (a.Col == 99 || whole(a.Cell, b.Cell)) }
		if !slices.EqualFunc(sets[:len(sets)+1], wantSets[:len(sets)+1], wholeSet) {
			t.Errorf("the sets became %v", sets)
		}
	}
}

// wantApart writes over each text of an answer, one after the other, and looks whether another one of it changes.
func wantApart(t *testing.T, what string, cells []api.Cell) {
	t.Helper()
	before := cloned(cells)
	for i := range cells {
		fill(cells[i].B, byte(i))
		for j := i + 1; j < len(cells); j++ {
			if !same(cells[j], before[j]) {
				t.Errorf("%s: cell %d, written over, changed cell %d", what, i, j)
			}
		}
	}
	fill(cells, number(-77))
}

func cellsOf(sets []api.Set) []api.Cell {
	var cells []api.Cell
	for _, set := range sets {
		cells = append(cells, set.Cell)
	}
	return cells
}

// P6.4, P2: answers that are written over are no matter to the arguments, nor to each other, nor to another answer.
func TestAnswersAreNew(t *testing.T) {
	rnd := rand.New(rand.NewPCG(6, 9))
	for range 2000 {
		s := schemaOf(rnd)
		row, sets := roomy(rowOf(rnd, s.Cols, 0)), roomySets(setsOf(rnd, s, 0))
		wantRow, wantSets := cloned(row), clonedSets(sets)
		last := len(row) - 1
		cells, _ := schema.Project(s, row, []int{last, 0, last, last, 0})
		wantApart(t, "Project", cells)
		cells, _ = schema.Apply(s, row, sets)
		wantApart(t, "Apply", cells)
		p, _ := schema.PutRow(s, row)
		fill(p, 0xaa)
		p, _ = schema.PutSets(s, sets)
		fill(p, 0xaa)
		if !slices.EqualFunc(row, wantRow, same) || !slices.EqualFunc(sets, wantSets, sameSet) {
			t.Errorf("the row and the sets became %v, %v", row, sets)
		}
		b := plainPutRow(s, row)
		cells, _, _ = schema.GetRow(s, b, 0)
		wantApart(t, "GetRow", cells)
		wantBytes(t, "PutRow", b, api.OK, plainPutRow(s, row), api.OK)
		if len(sets) == 0 {
			continue
		}
		b = plainPutSets(s, sets)
		read, _, _ := schema.GetSets(s, b, 0)
		wantApart(t, "GetSets", cellsOf(read))
		fill(read, api.Set{Col: 88})
		wantBytes(t, "PutSets", b, api.OK, plainPutSets(s, sets), api.OK)
	}
}

// P6.4: what is handed in is written over behind the call.
func TestNothingIsKept(t *testing.T) {
	rnd := rand.New(rand.NewPCG(6, 10))
	for range 2000 {
		s := schemaOf(rnd)
		row, sets := rowOf(rnd, s.Cols, 0), setsOf(rnd, s, 0)
		if len(sets) == 0 {
			continue
		}
		wantRow, wantSets := cloned(row), clonedSets(sets)
		wantApplied := cloned(row)
		for _, set := range wantSets {
			wantApplied[set.Col] = set.Cell
		}
		rowBytes, setsBytes := plainPutRow(s, row), plainPutSets(s, sets)
		all := make([]int, len(row))
		for i := range all {
			all[i] = i
		}
		applied, _ := schema.Apply(s, row, sets)
		projected, _ := schema.Project(s, row, all)
		b, _ := schema.PutRow(s, row)
		wantBytes(t, "PutRow", b, api.OK, rowBytes, api.OK)
		gotRow, _, _ := schema.GetRow(s, rowBytes, 0)
		gotSets, _, _ := schema.GetSets(s, setsBytes, 0)
		wantApart(t, "the row", row)
		wantApart(t, "the sets", cellsOf(sets))
		fill(sets, api.Set{})
		fill(all, 0)
		fill(rowBytes, 0xee)
		fill(setsBytes, 0xee)
		wantCells(t, "Apply", applied, api.OK, wantApplied, api.OK)
		wantCells(t, "Project", projected, api.OK, wantRow, api.OK)
		wantCells(t, "GetRow", gotRow, api.OK, wantRow, api.OK)
		if !slices.EqualFunc(gotSets, wantSets, sameSet) {
			t.Errorf("GetSets became %v; want %v", gotSets, wantSets)
		}
	}
}
