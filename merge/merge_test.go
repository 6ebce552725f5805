package merge_test

import (
	"bytes"
	"cmp"
	"maps"
	"math"
	"math/rand/v2"
	"slices"
	"testing"
	"time"
	"unsafe"

	"stoa/api"
	"stoa/keys"
	"stoa/memstore"
	"stoa/merge"
	"stoa/schema"
)

// The helpers beneath say in the plainest way what the chapter says; whether changes are a chain they ask layer 19, states they find themselves.

const most = int64(1) << 40 // MaxTime

func number(v int64) api.Cell { return api.Cell{Int: v} }

func text(s string) api.Cell { return api.Cell{B: []byte(s)} }

// table is the schema of the chapter's examples.
func table() api.Schema {
	return api.Schema{Cols: []api.Column{{Name: "id", Kind: api.KI32}, {Name: "name", Kind: api.KStr}}, Keys: 1}
}

// wide has keys of bytes, and columns of unlike kinds.
func wide() api.Schema {
	return api.Schema{Cols: []api.Column{{Name: "tag", Kind: api.KBytes}, {Name: "n", Kind: api.KU16}, {Name: "name", Kind: api.KStr, Null: true}, {Name: "raw", Kind: api.KBytes, Null: true}, {Name: "note", Kind: api.KI8}}, Keys: 2}
}

func row(id int64, name string) []api.Cell {
	return []api.Cell{number(id), text(name)}
}

func insert(time int64, row ...api.Cell) api.Change {
	return api.Change{Time: time, Kind: api.OInsert, Row: row}
}

func update(time int64, sets ...api.Set) api.Change {
	return api.Change{Time: time, Kind: api.OUpdate, Sets: sets}
}

func remove(time int64) api.Change {
	return api.Change{Time: time, Kind: api.ODelete}
}

func set(col int, c api.Cell) api.Set {
	return api.Set{Col: col, Cell: c}
}

func keyOf(s api.Schema, cells ...api.Cell) []byte {
	key, _ := keys.Encode(s, cells)
	return key
}

// idKey is a key of table's.
func idKey(id int64) []byte { return keyOf(table(), number(id)) }

func history(id int64, changes ...api.Change) api.History {
	return api.History{Key: idKey(id), Changes: changes}
}

func sameCell(a, b api.Cell) bool {
	return a.Null == b.Null && a.Int == b.Int && bytes.Equal(a.B, b.B)
}

func sameRow(a, b []api.Cell) bool { return slices.EqualFunc(a, b, sameCell) }

func sameRows(a, b [][]api.Cell) bool { return slices.EqualFunc(a, b, sameRow) }

func sameSet(a, b api.Set) bool { return a.Col == b.Col && sameCell(a.Cell, b.Cell) }

func sameChange(a, b api.Change) bool {
	return a.Time == b.Time && a.Kind == b.Kind && sameRow(a.Row, b.Row) && slices.EqualFunc(a.Sets, b.Sets, sameSet)
}

func sameHistory(a, b api.History) bool {
	return bytes.Equal(a.Key, b.Key) && slices.EqualFunc(a.Changes, b.Changes, sameChange)
}

func sameHistories(a, b []api.History) bool { return slices.EqualFunc(a, b, sameHistory) }

func sameKeys(a, b [][]byte) bool { return slices.EqualFunc(a, b, bytes.Equal) }

// plainJoin takes out the least key again and again, and of a key the change with the least time.
func plainJoin(s api.Schema, lists [][]api.History) ([]api.History, api.Errno) {
	if schema.Check(s) != api.OK {
		return nil, api.ErrSchema
	}
	stories := map[string][]api.Change{}
	for _, list := range lists {
		for i, h := range list {
			if i > 0 && string(list[i-1].Key) >= string(h.Key) {
				return nil, api.ErrOrder
			}
			stories[string(h.Key)] = append(stories[string(h.Key)], h.Changes...)
		}
	}
	var joined []api.History
	for len(stories) > 0 {
		least := slices.Min(slices.Collect(maps.Keys(stories)))
		h := api.History{Key: []byte(least)}
		byTime := map[int64]api.Change{}
		for _, c := range stories[least] {
			byTime[c.Time] = c
		}
		if len(byTime) < len(stories[least]) {
			return nil, api.ErrOrder
		}
		for len(byTime) > 0 {
			first := slices.Min(slices.Collect(maps.Keys(byTime)))
			h.Changes = append(h.Changes, byTime[first])
			delete(byTime, first)
		}
		if e := memstore.Chain(s, h.Key, h.Changes...); e != api.OK {
			return nil, e
		}
		joined = append(joined, h)
		delete(stories, least)
	}
	return joined, api.OK
}

// plainState is the state behind changes: the last of them that isn't an update says what there is, and of each column of a row that is there the last set behind it that there is.
func plainState(changes []api.Change, t int64) ([]api.Cell, bool) {
	changes = slices.DeleteFunc(slices.Clone(changes), func(c api.Change) bool { return c.Time > t })
	from := len(changes) - 1
	for from >= 0 && changes[from].Kind == api.OUpdate {
		from--
	}
	if from < 0 || changes[from].Kind == api.ODelete {
		return nil, false
	}
	state := slices.Clone(changes[from].Row)
	for col := range state {
		for _, c := range changes[from+1:] {
			for _, set := range c.Sets {
				if set.Col == col {
					state[col] = set.Cell
				}
			}
		}
	}
	return state, true
}

func plainTrim(hs []api.History, floor int64) []api.History {
	var all []api.History
	for _, h := range hs {
		later := slices.DeleteFunc(slices.Clone(h.Changes), func(c api.Change) bool { return c.Time <= floor })
		if state, ok := plainState(h.Changes, floor); ok {
			later = slices.Insert(later, 0, insert(floor, state...))
		}
		if len(later) > 0 {
			all = append(all, api.History{Key: h.Key, Changes: later})
		}
	}
	return all
}

func plainRows(hs []api.History, lows, highs [][]byte, t int64) (found [][]byte, rows [][]api.Cell) {
	for _, h := range hs {
		inside := 0
		for i, low := range lows {
			if i < len(highs) && string(low) <= string(h.Key) && (len(highs[i]) == 0 || string(h.Key) < string(highs[i])) {
				inside++
			}
		}
		if inside == 0 && len(lows) > 0 && len(highs) > 0 {
			continue
		}
		if state, ok := plainState(h.Changes, t); ok {
			found, rows = append(found, h.Key), append(rows, state)
		}
	}
	return found, rows
}

func wantJoin(t *testing.T, s api.Schema, lists ...[]api.History) ([]api.History, api.Errno) {
	t.Helper()
	joined, e := merge.Join(s, lists...)
	want, wantErr := plainJoin(s, lists)
	if e != wantErr || !sameHistories(joined, want) || e != api.OK && joined != nil {
		t.Fatalf("Join of %v = %v, %d; want %v, %d", lists, joined, e, want, wantErr)
	}
	return joined, e
}

func wantTrim(t *testing.T, hs []api.History, floor int64) []api.History {
	t.Helper()
	trimmed := merge.Trim(hs, floor)
	if want := plainTrim(hs, floor); !sameHistories(trimmed, want) {
		t.Fatalf("Trim of %v to %d = %v; want %v", hs, floor, trimmed, want)
	}
	return trimmed
}

func wantRows(t *testing.T, hs []api.History, lows, highs [][]byte, at int64) [][]byte {
	t.Helper()
	found, rows := merge.Rows(hs, lows, highs, at)
	want, told := plainRows(hs, lows, highs, at)
	if !sameKeys(found, want) || !sameRows(rows, told) {
		t.Fatalf("Rows of %v within %x, %x at %d = %x, %v; want %x, %v", hs, lows, highs, at, found, rows, want, told)
	}
	return found
}

// The chapter's examples.
func TestExamples(t *testing.T) {
	a := []api.History{history(7, insert(2, row(7, "x")...), remove(5))}
	b := []api.History{history(7, insert(9, row(7, "y")...)), history(8, insert(3, row(8, "z")...))}
	joined, e := merge.Join(table(), a, b)
	want := []api.History{history(7, insert(2, row(7, "x")...), remove(5), insert(9, row(7, "y")...)), history(8, insert(3, row(8, "z")...))}
	if e != api.OK || !sameHistories(joined, want) {
		t.Errorf("Join = %v, %d", joined, e)
	}
	want[0].Changes[0].Time, want[1].Changes[0].Time = 4, 4
	if trimmed := merge.Trim(joined, 4); !sameHistories(trimmed, want) {
		t.Errorf("Trim = %v", trimmed)
	}
	bs := []api.Bounds{span(1, "a", "c"), span(2, "b", "d"), span(3, "c", "e")}
	if ids := merge.Choose(bs, []int{10, 20, 5}, 16); !slices.Equal(ids, []int{1, 3}) {
		t.Errorf("Choose = %v", ids)
	}
}

// P24.1: the errors of Join, and which is named first.
func TestJoinErrors(t *testing.T) {
	bad := table()
	bad.Keys = 0
	one := func(changes ...api.Change) []api.History { return []api.History{history(7, changes...)} }
	in := func(at int64) api.Change { return insert(at, row(7, "x")...) }
	many := func(ids ...int64) []api.History {
		var hs []api.History
		for _, id := range ids {
			hs = append(hs, history(id))
		}
		return hs
	}
	type lists = [][]api.History
	for what, c := range map[string]struct {
		s     api.Schema
		lists lists
		want  api.Errno
	}{
		"no lists":                                 {table(), nil, api.OK},
		"no schema, no lists":                      {bad, nil, api.ErrSchema},
		"no schema":                                {bad, lists{many(2, 1)}, api.ErrSchema},
		"lists without keys":                       {table(), lists{nil, {}, nil}, api.OK},
		"keys without changes":                     {table(), lists{many(1, 3), many(2, 3)}, api.OK},
		"keys that fall":                           {table(), lists{many(2, 1)}, api.ErrOrder},
		"a key twice":                              {table(), lists{many(1, 1)}, api.ErrOrder},
		"keys that fall in the last list":          {table(), lists{many(1), many(1), many(1, 3, 2)}, api.ErrOrder},
		"an order behind a chain":                  {table(), lists{one(remove(5)), many(2, 2)}, api.ErrOrder},
		"an order ahead of a chain":                {table(), lists{many(2, 2), one(remove(5))}, api.ErrOrder},
		"one time in two lists":                    {table(), lists{one(in(2)), one(remove(2))}, api.ErrOrder},
		"one time in three lists":                  {table(), lists{one(in(2)), many(7), one(in(2))}, api.ErrOrder},
		"one time twice in a list":                 {table(), lists{one(in(2), in(2))}, api.ErrOrder},
		"one time far apart in a list":             {table(), lists{one(in(2), remove(5), in(2))}, api.ErrOrder},
		"one time ahead of a wrong time":           {table(), lists{one(remove(-1), in(2)), one(in(2))}, api.ErrOrder},
		"a wrong time twice":                       {table(), lists{one(remove(-1)), one(remove(-1))}, api.ErrOrder},
		"a wrong time":                             {table(), lists{one(remove(-1)), one(in(2))}, api.ErrArg},
		"a late time":                              {table(), lists{one(remove(most + 1)), one(in(2))}, api.ErrArg},
		"no kind":                                  {table(), lists{one(in(2)), one(api.Change{Time: 3})}, api.ErrArg},
		"changes out of order in a list":           {table(), lists{one(remove(5), in(2))}, api.OK},
		"changes between those of another":         {table(), lists{one(in(2), in(8)), one(remove(9), remove(5))}, api.OK},
		"a row that is there":                      {table(), lists{one(in(2)), one(in(3))}, api.ErrPresent},
		"a row that isn't there":                   {table(), lists{one(in(2), remove(3)), one(remove(4))}, api.ErrMissing},
		"the first key that is wrong: a chain":     {table(), lists{{history(1, remove(5))}, {history(2, remove(5), remove(5))}}, api.ErrMissing},
		"the first key that is wrong: a time":      {table(), lists{{history(2, remove(5))}, {history(1, remove(5), remove(5))}}, api.ErrOrder},
		"a row of another key":                     {table(), lists{{history(8, in(2))}}, api.ErrKey},
		"no key":                                   {table(), lists{{api.History{}}}, api.ErrKey},
		"no key ahead of one":                      {table(), lists{{api.History{}, history(1)}}, api.ErrKey},
		"no key twice":                             {table(), lists{{api.History{}, api.History{}}}, api.ErrOrder},
		"no key in two lists":                      {table(), lists{{api.History{}}, {api.History{Changes: []api.Change{remove(1)}}}}, api.ErrKey},
		"no key, and one time twice":               {table(), lists{{api.History{Changes: []api.Change{remove(1), remove(1)}}}}, api.ErrOrder},
		"half a key":                               {table(), lists{{api.History{Key: []byte{0x80, 0, 0}}}}, api.ErrKey},
		"a wrong cell":                             {table(), lists{one(insert(2, number(7), text("a\x00")))}, api.ErrForm},
		"an update behind an insert of the other":  {table(), lists{one(update(3, set(1, text("y")))), one(in(2))}, api.OK},
		"an update behind a delete of the other":   {table(), lists{one(in(1), update(3, set(1, text("y")))), one(remove(2))}, api.ErrMissing},
		"sets beside a row":                        {table(), lists{one(api.Change{Time: 2, Kind: api.OInsert, Row: row(7, "x"), Sets: []api.Set{set(1, text("y"))}})}, api.ErrCols},
		"a delete with a row":                      {table(), lists{one(in(1), api.Change{Time: 2, Kind: api.ODelete, Row: row(7, "x")})}, api.ErrCols},
		"a wrong change behind a right key's time": {table(), lists{{history(1, insert(1, row(1, "x")...)), history(2, remove(1))}, {history(1, remove(2))}}, api.ErrMissing},
	} {
		if _, e := wantJoin(t, c.s, c.lists...); e != c.want {
			t.Errorf("Join of %s = %d; want %d", what, e, c.want)
		}
	}
}

func oneOf[T any](rnd *rand.Rand, list ...T) T { return list[rnd.IntN(len(list))] }

func cellOf(rnd *rand.Rand, col api.Column) api.Cell {
	if col.Null && rnd.IntN(4) == 0 {
		return api.Cell{Null: true}
	}
	if col.Kind == api.KStr || col.Kind == api.KBytes {
		return text(oneOf(rnd, "", "a", "b", "ab", "abc"))
	}
	return number(rnd.Int64N(4))
}

func rowOf(rnd *rand.Rand, cols []api.Column) []api.Cell {
	var cells []api.Cell
	for _, col := range cols {
		cells = append(cells, cellOf(rnd, col))
	}
	return cells
}

func setsOf(rnd *rand.Rand, s api.Schema) []api.Set {
	var sets []api.Set
	for col := s.Keys; col < len(s.Cols); col++ {
		if rnd.IntN(2) == 0 || col == len(s.Cols)-1 && sets == nil {
			sets = append(sets, set(col, cellOf(rnd, s.Cols[col])))
		}
	}
	return sets
}

// chainOf is a chain of n changes.
func chainOf(rnd *rand.Rand, s api.Schema, key []api.Cell, n int) []api.Change {
	var changes []api.Change
	at, there := rnd.Int64N(4), false
	for range n {
		switch {
		case !there:
			changes = append(changes, insert(at, append(slices.Clone(key), rowOf(rnd, s.Cols[s.Keys:])...)...))
			there = true
		case rnd.IntN(3) == 0:
			changes = append(changes, remove(at))
			there = false
		default:
			changes = append(changes, update(at, setsOf(rnd, s)...))
		}
		at += 1 + rnd.Int64N(3)
	}
	return changes
}

// historiesOf are histories that are chains, in order.
func historiesOf(rnd *rand.Rand, s api.Schema, n int) []api.History {
	stories := map[string][]api.Change{}
	for range n {
		key := rowOf(rnd, s.Cols[:s.Keys])
		stories[string(keyOf(s, key...))] = chainOf(rnd, s, key, rnd.IntN(8))
	}
	var hs []api.History
	for _, key := range slices.Sorted(maps.Keys(stories)) {
		hs = append(hs, api.History{Key: []byte(key), Changes: stories[key]})
	}
	return hs
}

// strew lays the changes of histories into lists: each one into any list, or from each delete on into another list, so that each list's are chains.
func strew(rnd *rand.Rand, hs []api.History, lists int, chains bool) [][]api.History {
	all := make([][]api.History, lists)
	for _, h := range hs {
		parts := make([][]api.Change, lists)
		to := rnd.IntN(lists)
		for _, c := range h.Changes {
			if !chains || c.Kind == api.OInsert {
				to = rnd.IntN(lists)
			}
			parts[to] = append(parts[to], c)
		}
		for i, part := range parts {
			if len(part) > 0 || rnd.IntN(4) == 0 || len(h.Changes) == 0 && i == to {
				all[i] = append(all[i], api.History{Key: h.Key, Changes: part})
			}
		}
	}
	return all
}

// P24.1: histories taken apart in any way are joined again.
func TestJoinedAgain(t *testing.T) {
	rnd := rand.New(rand.NewPCG(24, 1))
	for range 3000 {
		s := oneOf(rnd, table(), wide())
		hs := historiesOf(rnd, s, rnd.IntN(8))
		lists := strew(rnd, hs, 1+rnd.IntN(4), rnd.IntN(2) == 0)
		for _, list := range lists {
			for _, h := range list {
				if rnd.IntN(3) == 0 {
					rnd.Shuffle(len(h.Changes), func(i, j int) { h.Changes[i], h.Changes[j] = h.Changes[j], h.Changes[i] })
				}
			}
		}
		if joined, e := wantJoin(t, s, lists...); e != api.OK || !sameHistories(joined, hs) {
			t.Fatalf("Join = %v, %d; want %v", joined, e, hs)
		}
	}
}

// bend alters something of lists.
func bend(rnd *rand.Rand, s api.Schema, lists [][]api.History) {
	i := rnd.IntN(len(lists))
	list := lists[i]
	if len(list) == 0 {
		return
	}
	h := &list[rnd.IntN(len(list))]
	n := len(h.Changes)
	switch k := rnd.IntN(8); {
	case k == 0:
		lists[i] = append(list, list[rnd.IntN(len(list))])
	case k == 1:
		h.Key = append(slices.Clone(h.Key), 0)
	case k == 2:
		h.Key = nil
	case n == 0:
		h.Changes = []api.Change{remove(rnd.Int64N(9))}
	case k == 3:
		h.Changes[rnd.IntN(n)].Time = oneOf(rnd, -1, rnd.Int64N(12), rnd.Int64N(12), most+1)
	case k == 4:
		h.Changes[rnd.IntN(n)].Kind = rnd.IntN(5)
	case k == 5:
		h.Changes[rnd.IntN(n)].Row = rowOf(rnd, s.Cols)
	case k == 6:
		h.Changes = slices.Delete(h.Changes, 0, 1)
	default:
		h.Changes = append(h.Changes, h.Changes[rnd.IntN(n)])
	}
}

// P24.1: lists of histories that aren't as they should be.
func TestJoinOfAny(t *testing.T) {
	rnd := rand.New(rand.NewPCG(24, 2))
	told := map[api.Errno]int{}
	for range 20000 {
		s := oneOf(rnd, table(), wide())
		var lists [][]api.History
		for range 1 + rnd.IntN(3) {
			lists = append(lists, historiesOf(rnd, s, rnd.IntN(4)))
		}
		if rnd.IntN(2) == 0 {
			lists = strew(rnd, historiesOf(rnd, s, 4), 3, true)
		}
		for range rnd.IntN(3) {
			bend(rnd, s, lists)
		}
		_, e := wantJoin(t, s, lists...)
		told[e]++
	}
	for _, e := range []api.Errno{api.OK, api.ErrOrder, api.ErrArg, api.ErrKey, api.ErrCols, api.ErrPresent, api.ErrMissing} {
		if told[e] < 50 {
			t.Errorf("Join told %d %d times", e, told[e])
		}
	}
}

// P24.2: a joined row's state is that of the list that has the row's last change.
func TestJoinedStates(t *testing.T) {
	rnd := rand.New(rand.NewPCG(24, 3))
	for range 2000 {
		s := oneOf(rnd, table(), wide())
		lists := strew(rnd, historiesOf(rnd, s, 1+rnd.IntN(6)), 3, true)
		joined, e := wantJoin(t, s, lists...)
		if e != api.OK {
			t.Fatalf("Join = %d", e)
		}
		for _, h := range joined {
			for at := int64(-1); at < 30; at++ {
				last, want, live := int64(-1), []api.Cell(nil), false
				for _, list := range lists {
					for _, part := range list {
						for _, c := range part.Changes {
							if bytes.Equal(part.Key, h.Key) && c.Time <= at && c.Time > last {
								last = c.Time
								want, live = plainState(part.Changes, at)
							}
						}
					}
				}
				if state, ok := memstore.State(h.Changes, at); ok != live || !sameRow(state, want) {
					t.Fatalf("at %d %x is %v, %t; want %v, %t", at, h.Key, state, ok, want, live)
				}
			}
		}
	}
}

func floors() []int64 {
	far := []int64{math.MinInt64, -most, -2, -1, most - 1, most, most + 1, math.MaxInt64 - 1, math.MaxInt64}
	for t := range int64(25) {
		far = append(far, t)
	}
	return far
}

// P24.1, P24.3: trimmed histories tell what the whole ones tell; trimmed twice is trimmed once.
func TestTrim(t *testing.T) {
	rnd := rand.New(rand.NewPCG(24, 4))
	for range 400 {
		s := oneOf(rnd, table(), wide())
		hs := historiesOf(rnd, s, rnd.IntN(6))
		for _, floor := range floors() {
			trimmed := wantTrim(t, hs, floor)
			if twice := wantTrim(t, trimmed, floor); !sameHistories(twice, trimmed) {
				t.Fatalf("trimmed to %d twice: %v; once: %v", floor, twice, trimmed)
			}
			for _, h := range trimmed {
				if e := memstore.Chain(s, h.Key, h.Changes...); e != api.OK && floor >= 0 && floor <= most {
					t.Fatalf("trimmed to %d it is no chain: %d: %v", floor, e, h)
				}
			}
			for at := floor; at < min(floor, 25)+25 && at >= floor; at++ {
				found, rows := merge.Rows(hs, nil, nil, at)
				others, told := merge.Rows(trimmed, nil, nil, at)
				if !sameKeys(found, others) || !sameRows(rows, told) {
					t.Fatalf("trimmed to %d at %d: %x, %v; want %x, %v", floor, at, others, told, found, rows)
				}
			}
		}
	}
}

// P24.1: edges of Trim, written out.
func TestTrimEdges(t *testing.T) {
	hs := []api.History{history(7, insert(3, row(7, "x")...), update(5, set(1, text("y"))), remove(8)), history(8), history(9, insert(8, row(9, "z")...))}
	x, y, z := row(7, "x"), row(7, "y"), row(9, "z")
	whole := []api.History{hs[0], hs[2]}
	for floor, want := range map[int64][]api.History{
		-1: whole,
		2:  whole,
		3:  whole,
		4:  {history(7, insert(4, x...), update(5, set(1, text("y"))), remove(8)), hs[2]},
		5:  {history(7, insert(5, y...), remove(8)), hs[2]},
		7:  {history(7, insert(7, y...), remove(8)), hs[2]},
		8:  {hs[2]},
		9:  {history(9, insert(9, z...))},
	} {
		if got := wantTrim(t, hs, floor); !sameHistories(got, want) {
			t.Errorf("Trim to %d = %v; want %v", floor, got, want)
		}
	}
	if got := merge.Trim(nil, 5); got != nil {
		t.Errorf("Trim of nothing = %v", got)
	}
}

// bytesOf is a key, a piece of one, or none.
func bytesOf(rnd *rand.Rand, hs []api.History) []byte {
	if len(hs) == 0 || rnd.IntN(4) == 0 {
		return nil
	}
	key := hs[rnd.IntN(len(hs))].Key
	switch rnd.IntN(4) {
	case 0:
		return keys.Next(key)
	case 1:
		return key[:rnd.IntN(len(key)+1)]
	}
	return key
}

// P24.1: rows within any ranges at any times.
func TestRows(t *testing.T) {
	rnd := rand.New(rand.NewPCG(24, 5))
	for range 5000 {
		hs := historiesOf(rnd, oneOf(rnd, table(), wide()), rnd.IntN(8))
		var lows, highs [][]byte
		for range rnd.IntN(4) {
			lows = append(lows, bytesOf(rnd, hs))
		}
		for range rnd.IntN(4) {
			highs = append(highs, bytesOf(rnd, hs))
		}
		for _, at := range []int64{-1, rnd.Int64N(20), rnd.Int64N(20), most, math.MinInt64, math.MaxInt64} {
			wantRows(t, hs, lows, highs, at)
		}
	}
}

// P24.1: edges of the ranges, written out.
func TestRanges(t *testing.T) {
	var hs []api.History
	for id := range int64(5) {
		hs = append(hs, history(id, insert(1, row(id, "x")...)))
	}
	type bounds = [][]byte
	k := idKey
	for what, c := range map[string]struct {
		lows, highs bounds
		want        bounds
	}{
		"none":                    {nil, nil, bounds{k(0), k(1), k(2), k(3), k(4)}},
		"lows alone":              {bounds{k(3)}, nil, bounds{k(0), k(1), k(2), k(3), k(4)}},
		"highs alone":             {nil, bounds{k(3)}, bounds{k(0), k(1), k(2), k(3), k(4)}},
		"one without bounds":      {bounds{nil}, bounds{{}}, bounds{k(0), k(1), k(2), k(3), k(4)}},
		"one":                     {bounds{k(1)}, bounds{k(3)}, bounds{k(1), k(2)}},
		"one without an end":      {bounds{k(3)}, bounds{nil}, bounds{k(3), k(4)}},
		"one without a beginning": {bounds{nil}, bounds{k(1)}, bounds{k(0)}},
		"one without keys":        {bounds{k(2)}, bounds{k(2)}, nil},
		"one the other way round": {bounds{k(3)}, bounds{k(1)}, nil},
		"two that overlap":        {bounds{k(1), k(2)}, bounds{k(3), k(4)}, bounds{k(1), k(2), k(3)}},
		"two, the later first":    {bounds{k(3), k(0)}, bounds{k(4), k(1)}, bounds{k(0), k(3)}},
		"the same twice":          {bounds{k(1), k(1)}, bounds{k(2), k(2)}, bounds{k(1)}},
		"a low too many":          {bounds{k(1), k(3)}, bounds{k(2)}, bounds{k(1)}},
		"a high too many":         {bounds{k(1)}, bounds{k(2), nil}, bounds{k(1)}},
	} {
		if found := wantRows(t, hs, c.lows, c.highs, 5); !sameKeys(found, c.want) {
			t.Errorf("Rows of %s = %x; want %x", what, found, c.want)
		}
		if found := wantRows(t, hs, c.lows, c.highs, 0); found != nil {
			t.Errorf("Rows of %s ahead of all = %x", what, found)
		}
	}
}

// P1: of changes that are no chain nothing is promised, but that the calls end.
func TestNoChains(t *testing.T) {
	rnd := rand.New(rand.NewPCG(24, 6))
	for range 5000 {
		var hs []api.History
		for range rnd.IntN(4) {
			h := api.History{Key: []byte(oneOf(rnd, "", "a", "b"))}
			for range rnd.IntN(5) {
				sets := []api.Set{set(oneOf(rnd, -1, 0, 1, 2, math.MaxInt, math.MinInt), text("x"))}
				h.Changes = append(h.Changes, api.Change{Time: oneOf[int64](rnd, math.MinInt64, -1, 3, 2, math.MaxInt64), Kind: rnd.IntN(6) - 1, Row: rowOf(rnd, table().Cols[:rnd.IntN(3)]), Sets: sets})
			}
			hs = append(hs, h)
		}
		at := oneOf[int64](rnd, math.MinInt64, -1, 2, 3, math.MaxInt64)
		merge.Trim(hs, at)
		merge.Rows(hs, nil, nil, at)
		merge.Join(table(), hs, hs)
	}
}

// area is the memory of a list, its spare room too. By the pointer it stays in use.
type area struct {
	from unsafe.Pointer
	size uintptr
}

func (a area) begin() uintptr { return uintptr(a.from) }

func areaOf[T any](list []T) area {
	if cap(list) == 0 {
		return area{}
	}
	return area{unsafe.Pointer(unsafe.SliceData(list)), uintptr(cap(list)) * unsafe.Sizeof(list[:1][0])}
}

func areasOfRow(row []api.Cell) []area {
	all := []area{areaOf(row)}
	for _, c := range row {
		all = append(all, areaOf(c.B))
	}
	return all
}

func areasOfHistories(hs []api.History) []area {
	all := []area{areaOf(hs)}
	for _, h := range hs {
		all = append(all, areaOf(h.Key), areaOf(h.Changes))
		for _, c := range h.Changes {
			all = append(append(all, areasOfRow(c.Row)...), areaOf(c.Sets))
			for _, set := range c.Sets {
				all = append(all, areaOf(set.Cell.B))
			}
		}
	}
	return all
}

func wantApart(t *testing.T, all []area) {
	t.Helper()
	all = slices.DeleteFunc(all, func(a area) bool { return a == area{} })
	slices.SortFunc(all, func(a, b area) int { return cmp.Compare(a.begin(), b.begin()) })
	for i := range all {
		if i > 0 && all[i].begin() < all[i-1].begin()+all[i-1].size {
			t.Fatal("two lists share memory")
		}
	}
}

// roomy is a copy with some room behind it, all of it zero.
func roomy[T any](list []T) []T {
	return append(slices.Clone(list), make([]T, 3)...)[:len(list)]
}

func copyRow(row []api.Cell) []api.Cell {
	row = roomy(row)
	for i := range row {
		row[i].B = roomy(row[i].B)
	}
	return row
}

// copyHistories has room behind each list.
func copyHistories(hs []api.History) []api.History {
	hs = roomy(hs)
	for i := range hs {
		hs[i].Key, hs[i].Changes = roomy(hs[i].Key), roomy(hs[i].Changes)
		for k := range hs[i].Changes {
			c := &hs[i].Changes[k]
			c.Row, c.Sets = copyRow(c.Row), roomy(c.Sets)
			for j := range c.Sets {
				c.Sets[j].Cell.B = roomy(c.Sets[j].Cell.B)
			}
		}
	}
	return hs
}

// isRoom tells whether the three behind a list are zero.
func isRoom[T any](list []T, zero func(T) bool) bool {
	return !slices.ContainsFunc(list[len(list):len(list)+3], func(v T) bool { return !zero(v) })
}

func zeroByte(b byte) bool { return b == 0 }

func zeroCell(c api.Cell) bool { return !c.Null && c.Int == 0 && c.B == nil }

// areRoomy tells whether nothing has been written behind the lists of copied histories.
func areRoomy(hs []api.History) bool {
	ok := isRoom(hs, func(h api.History) bool { return h.Key == nil && h.Changes == nil })
	for _, h := range hs {
		ok = ok && isRoom(h.Key, zeroByte) && isRoom(h.Changes, func(c api.Change) bool { return c.Time == 0 && c.Kind == 0 && c.Row == nil && c.Sets == nil })
		for _, c := range h.Changes {
			ok = ok && isRoom(c.Row, zeroCell) && isRoom(c.Sets, func(x api.Set) bool { return x.Col == 0 && zeroCell(x.Cell) })
			for _, cell := range c.Row {
				ok = ok && isRoom(cell.B, zeroByte)
			}
		}
	}
	return ok
}

func spoil[T any](list []T, v T) {
	list = list[:cap(list)]
	for i := range list {
		list[i] = v
	}
}

func spoilRow(row []api.Cell) {
	for _, c := range row {
		spoil(c.B, '~')
	}
	spoil(row, api.Cell{Int: -77})
}

func spoilHistories(hs []api.History) {
	for _, h := range hs {
		spoil(h.Key, '~')
		for _, c := range h.Changes {
			spoilRow(c.Row)
			for _, set := range c.Sets {
				spoil(set.Cell.B, '~')
			}
			spoil(c.Sets, api.Set{Col: -77})
		}
		spoil(h.Changes, api.Change{Time: -77})
	}
	spoil(hs, api.History{})
}

// P24.5: what is handed in isn't changed, and what is answered is no piece of it, nor of itself.
func TestMemory(t *testing.T) {
	rnd := rand.New(rand.NewPCG(24, 7))
	for range 1000 {
		s := oneOf(rnd, table(), wide())
		lists := strew(rnd, historiesOf(rnd, s, 1+rnd.IntN(5)), 3, rnd.IntN(2) == 0)
		want, e := plainJoin(s, lists)
		var given [][]api.History
		for _, list := range lists {
			given = append(given, copyHistories(list))
		}
		joined, err := merge.Join(s, given...)
		for i, list := range lists {
			if !sameHistories(given[i], list) || !areRoomy(given[i]) {
				t.Fatal("Join has changed a list")
			}
			spoilHistories(given[i])
		}
		if e != api.OK || err != api.OK || !sameHistories(joined, want) {
			t.Fatalf("Join = %v, %d; want %v", joined, err, want)
		}
		wantApart(t, areasOfHistories(joined))
		wantCutApart(t, want, rnd.Int64N(12))
	}
}

// wantCutApart: Trim and Rows keep nothing and share nothing.
func wantCutApart(t *testing.T, hs []api.History, at int64) {
	t.Helper()
	given := copyHistories(hs)
	lows, highs := roomy([][]byte{roomy([]byte{0}), nil}), roomy([][]byte{nil, roomy([]byte{9})})
	trimmed := merge.Trim(given, at)
	found, rows := merge.Rows(given, lows, highs, at)
	if !sameHistories(given, hs) || !areRoomy(given) {
		t.Fatal("the histories have changed")
	}
	if !sameKeys(lows, [][]byte{{0}, nil}) || !sameKeys(highs, [][]byte{nil, {9}}) || lows[:3][2] != nil || highs[:3][2] != nil || !isRoom(lows[0], zeroByte) || !isRoom(highs[1], zeroByte) {
		t.Fatal("the ranges have changed")
	}
	all := append(areasOfHistories(trimmed), areaOf(found), areaOf(rows))
	for i := range found {
		all = append(append(all, areaOf(found[i])), areasOfRow(rows[i])...)
	}
	wantApart(t, all)
	spoilHistories(given)
	want, told := plainRows(hs, [][]byte{{0}}, [][]byte{nil}, at)
	if !sameHistories(trimmed, plainTrim(hs, at)) || !sameKeys(found, want) || !sameRows(rows, told) {
		t.Fatal("something that was handed in is kept")
	}
}

// Many histories are joined, trimmed and told soon.
func TestMany(t *testing.T) {
	begin := time.Now()
	var lists [][]api.History
	for i := range int64(8) {
		var list []api.History
		for id := range int64(4096) {
			list = append(list, history(3*id+i%3, insert(4*i, row(3*id+i%3, "x")...), update(4*i+1, set(1, text("y"))), remove(4*i+2)))
		}
		lists = append(lists, list)
	}
	joined, e := merge.Join(table(), lists...)
	if e != api.OK || len(joined) != 3*4096 {
		t.Fatalf("Join = %d histories, %d", len(joined), e)
	}
	if trimmed := merge.Trim(joined, 17); len(trimmed) != 3*4096 {
		t.Errorf("Trim leaves %d", len(trimmed))
	}
	if found, _ := merge.Rows(joined, nil, nil, 17); len(found) != 4096 {
		t.Errorf("Rows tells %d", len(found))
	}
	var long []api.Change
	for at := range int64(20000) {
		long = append(long, update(at+1, set(1, text("y"))))
	}
	rand.New(rand.NewPCG(24, 8)).Shuffle(len(long), func(i, j int) { long[i], long[j] = long[j], long[i] })
	if joined, e := merge.Join(table(), []api.History{history(7, long...)}, []api.History{history(7, insert(0, row(7, "x")...))}); e != api.OK || len(joined[0].Changes) != 20001 {
		t.Errorf("Join of one = %d", e)
	}
	wantChosenOfMany(t)
	if took := time.Since(begin); took > time.Minute {
		t.Errorf("it took %v", took)
	}
}
