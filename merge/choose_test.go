package merge_test

import (
	"bytes"
	"fmt"
	"math"
	"math/big"
	"math/rand/v2"
	"slices"
	"testing"

	"stoa/api"
	"stoa/merge"
)

func span(id int, first, last string) api.Bounds {
	return api.Bounds{Id: id, Min: []byte(first), Max: []byte(last)}
}

func holds(b api.Bounds, key string) bool {
	return string(b.Min) <= key && key <= string(b.Max)
}

// countOf is how many rows the i-th one has.
func countOf(rows []int, i int) int {
	if i < len(rows) && rows[i] >= 1 {
		return rows[i]
	}
	return 1
}

// plainKey goes through all Mins, and through all spans for each.
func plainKey(bs []api.Bounds) (string, int) {
	best, most := "", 0
	for _, b := range bs {
		key, n := string(b.Min), 0
		for _, other := range bs {
			if holds(other, key) {
				n++
			}
		}
		if n > most || n == most && key < best {
			best, most = key, n
		}
	}
	return best, most
}

// plainChoose takes out the least of those that are left, again and again.
func plainChoose(bs []api.Bounds, rows []int, budget int) []int {
	key, _ := plainKey(bs)
	var left [][2]int
	for i, b := range bs {
		if holds(b, key) {
			left = append(left, [2]int{countOf(rows, i), b.Id})
		}
	}
	var ids []int
	sum := new(big.Int)
	for len(left) > 0 {
		at := 0
		for i, c := range left {
			if c[0] < left[at][0] || c[0] == left[at][0] && c[1] < left[at][1] {
				at = i
			}
		}
		sum.Add(sum, big.NewInt(int64(left[at][0])))
		if sum.Cmp(big.NewInt(int64(budget))) > 0 {
			break
		}
		ids = append(ids, left[at][1])
		left = slices.Delete(left, at, at+1)
	}
	if len(ids) < 2 {
		return nil
	}
	slices.Sort(ids)
	return ids
}

func wantChoose(t *testing.T, bs []api.Bounds, rows []int, budget int) []int {
	t.Helper()
	ids := merge.Choose(bs, rows, budget)
	if want := plainChoose(bs, rows, budget); !slices.Equal(ids, want) {
		t.Fatalf("Choose of %v with rows %d and budget %d = %d; want %d", bs, rows, budget, ids, want)
	}
	return ids
}

// P24.1: what is chosen, written out.
func TestChoose(t *testing.T) {
	abc := []api.Bounds{span(1, "a", "c"), span(2, "b", "d"), span(3, "c", "e")}
	two := []api.Bounds{span(5, "a", "b"), span(4, "b", "c"), span(1, "x", "y"), span(2, "y", "z")}
	same := []api.Bounds{span(9, "a", "b"), span(3, "a", "b"), span(6, "a", "b")}
	for _, c := range []struct {
		bs     []api.Bounds
		rows   []int
		budget int
		want   []int
	}{
		{abc, []int{10, 20, 5}, 14, nil},
		{abc, []int{10, 20, 5}, 15, []int{1, 3}},
		{abc, []int{10, 20, 5}, 34, []int{1, 3}},
		{abc, []int{10, 20, 5}, 35, []int{1, 2, 3}},
		{abc, nil, 2, []int{1, 2}},
		{abc, []int{7}, 2, []int{2, 3}},
		{abc, []int{0, -5, math.MinInt}, 3, []int{1, 2, 3}},
		{abc, []int{1, 1, 1, 1, 1}, 3, []int{1, 2, 3}},
		{abc, []int{10, 20, 5}, 0, nil},
		{abc, []int{10, 20, 5}, math.MinInt, nil},
		{abc, []int{math.MaxInt, math.MaxInt, math.MaxInt}, math.MaxInt, nil},
		{abc, []int{math.MaxInt, 1, math.MaxInt}, math.MaxInt, nil},
		{abc, []int{math.MaxInt - 1, 1, math.MaxInt}, math.MaxInt, []int{1, 2}},
		{abc, []int{math.MaxInt / 2, math.MaxInt / 2, 1}, math.MaxInt, []int{1, 2, 3}},
		{two, nil, 10, []int{4, 5}},
		{two, []int{5, 5, 1, 1}, 8, nil},
		{same, nil, 2, []int{3, 6}},
		{same, []int{2, 1, 2}, 3, []int{3, 6}},
		{same, []int{1, 2, 2}, 3, []int{3, 9}},
		{nil, nil, 10, nil},
		{nil, []int{5}, 10, nil},
		{[]api.Bounds{span(1, "a", "b")}, nil, 10, nil},
		{[]api.Bounds{span(1, "a", "b"), span(1, "a", "b")}, nil, 10, []int{1, 1}},
		{[]api.Bounds{span(1, "a", "b"), span(2, "c", "d")}, nil, 10, nil},
		{[]api.Bounds{span(1, "a", "b"), span(2, "b", "a")}, nil, 10, nil},
		{[]api.Bounds{span(1, "b", "a"), span(2, "b", "a")}, nil, 10, nil},
		{[]api.Bounds{span(1, "b", "a"), span(2, "b", "")}, nil, 10, nil},
		{[]api.Bounds{span(3, "", ""), span(2, "", "a"), span(1, "a", "a")}, nil, 10, []int{2, 3}},
		{[]api.Bounds{span(-3, "a", "b"), span(math.MinInt, "a", "b"), span(math.MaxInt, "a", "b")}, nil, 2, []int{math.MinInt, -3}},
	} {
		if ids := wantChoose(t, c.bs, c.rows, c.budget); !slices.Equal(ids, c.want) {
			t.Errorf("Choose of %v with rows %d and budget %d = %d; want %d", c.bs, c.rows, c.budget, ids, c.want)
		}
		if c.want == nil && merge.Choose(c.bs, c.rows, c.budget) != nil {
			t.Error("an empty list")
		}
	}
}

// P24.1, P24.4: all of up to three spans over three keys, with all rows and budgets that are small.
func TestChooseOfAllSmall(t *testing.T) {
	var ends []api.Bounds
	for _, first := range []string{"", "a", "b"} {
		for _, last := range []string{"", "a", "b"} {
			ends = append(ends, span(0, first, last))
		}
	}
	for n := range 9 * 9 * 9 {
		bs := []api.Bounds{ends[n%9], ends[n/9%9], ends[n/81]}
		bs[0].Id, bs[1].Id, bs[2].Id = 2, 3, 1
		for k := range 64 {
			rows := []int{k % 4, k / 4 % 4, k / 16}
			for budget := range 11 {
				ids := wantChoose(t, bs, rows, budget-1)
				wantChosen(t, bs, rows, budget-1, ids)
			}
			wantChoose(t, bs[:2], rows, 4)
		}
	}
}

// wantChosen: of spans of unlike Ids what is chosen all holds one key, and has no more rows than the budget.
func wantChosen(t *testing.T, bs []api.Bounds, rows []int, budget int, ids []int) {
	t.Helper()
	first, last, sum := "", "~", 0
	for i, b := range bs {
		if slices.Contains(ids, b.Id) {
			first, last = max(first, string(b.Min)), min(last, string(b.Max))
			sum += countOf(rows, i)
		}
	}
	if len(ids) == 1 || len(ids) > 0 && (first > last || sum > budget) || !slices.IsSorted(ids) {
		t.Fatalf("of %v with rows %d and budget %d %d are chosen", bs, rows, budget, ids)
	}
}

// P24.1, P24.4: any spans.
func TestChooseOfAny(t *testing.T) {
	rnd := rand.New(rand.NewPCG(24, 9))
	chosen := map[int]int{}
	for range 30000 {
		letters := 1 + rnd.IntN(12)
		var bs []api.Bounds
		var rows []int
		for id := range rnd.IntN(20) {
			b := span(id, fmt.Sprintf("%c", 'a'+rnd.IntN(letters)), fmt.Sprintf("%c", 'a'+rnd.IntN(letters)))
			if rnd.IntN(8) > 0 && string(b.Max) < string(b.Min) {
				b.Min, b.Max = b.Max, b.Min
			}
			bs = append(bs, b)
			rows = append(rows, rnd.IntN(12)-1)
		}
		rnd.Shuffle(len(bs), func(i, j int) { bs[i], bs[j] = bs[j], bs[i] })
		rows = rows[:rnd.IntN(len(rows)+1)]
		budget := rnd.IntN(40) - 2
		ids := wantChoose(t, bs, rows, budget)
		wantChosen(t, bs, rows, budget, ids)
		chosen[min(len(ids), 4)]++
		for i := range bs {
			bs[i].Id = rnd.IntN(4)
		}
		wantChoose(t, bs, rows, budget)
	}
	if chosen[0] < 1000 || chosen[2] < 1000 || chosen[4] < 1000 {
		t.Errorf("so many were chosen so often: %v", chosen)
	}
}

// P24.5: neither the spans nor the rows are changed, nor the room behind them; nothing is kept.
func TestChooseMemory(t *testing.T) {
	abc := []api.Bounds{span(3, "c", "e"), span(2, "b", "d"), span(1, "a", "c")}
	bs, rows := roomy(abc), roomy([]int{9, 5, 7})
	for i := range bs {
		bs[i].Min, bs[i].Max = roomy(bs[i].Min), roomy(bs[i].Max)
	}
	first := merge.Choose(bs, rows, 100)
	second := merge.Choose(bs, rows, 100)
	spoil(first, -77)
	if !slices.Equal(second, []int{1, 2, 3}) {
		t.Errorf("Choose = %d", second)
	}
	for i, b := range bs {
		if b.Id != abc[i].Id || !bytes.Equal(b.Min, abc[i].Min) || !bytes.Equal(b.Max, abc[i].Max) || !isRoom(b.Min, zeroByte) || !isRoom(b.Max, zeroByte) {
			t.Errorf("the spans have changed: %v", bs)
		}
	}
	if !slices.Equal(rows[:6], []int{9, 5, 7, 0, 0, 0}) || bs[:4][3].Min != nil {
		t.Errorf("the rows have changed: %d", rows[:6])
	}
}

// wantChosenOfMany: of many spans some are chosen soon.
func wantChosenOfMany(t *testing.T) {
	t.Helper()
	rnd := rand.New(rand.NewPCG(24, 10))
	var bs []api.Bounds
	for id := range 200000 {
		at := rnd.IntN(800000)
		bs = append(bs, span(id, fmt.Sprintf("%06d", at), fmt.Sprintf("%06d", at+100)))
	}
	if ids := merge.Choose(bs, nil, 5); len(ids) != 5 {
		t.Errorf("Choose = %d", ids)
	}
}
