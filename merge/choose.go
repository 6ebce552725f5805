package merge

import (
	"bytes"
	"cmp"
	"slices"

	"stoa/api"
)

// candidate is a rowset that may be chosen.
type candidate struct {
	id, rows int
}

// Choose chooses rowsets to be merged.
func Choose(bs []api.Bounds, rows []int, budget int) []int {
	var ids []int
	for _, c := range candidates(bs, rows) {
		// What is left of the budget is compared, not the sum of the rows, which may pass an int.
		if c.rows > budget {
			break
		}
		budget -= c.rows
		ids = append(ids, c.id)
	}
	if len(ids) < 2 {
		return nil
	}
	slices.Sort(ids)
	return ids
}

// candidates are the rowsets in whose spans the key lies that counts, in the order in which they are taken.
func candidates(bs []api.Bounds, rows []int) []candidate {
	key := deepest(bs)
	var all []candidate
	for i, b := range bs {
		if bytes.Compare(b.Min, key) > 0 || bytes.Compare(key, b.Max) > 0 {
			continue
		}
		c := candidate{id: b.Id, rows: 1}
		if i < len(rows) {
			c.rows = max(rows[i], 1)
		}
		all = append(all, c)
	}
	slices.SortFunc(all, func(a, b candidate) int {
		return cmp.Or(cmp.Compare(a.rows, b.rows), cmp.Compare(a.id, b.id))
	})
	return all
}

// deepest is the least key of those Mins in which the most spans lie. At a Min there lie all spans that have begun up to there but for those that have ended ahead of it.
func deepest(bs []api.Bounds) []byte {
	var begins, ends [][]byte
	for _, b := range bs {
		// Of a span that holds no key the Min needs no look: another Min that isn't behind it lies in as many spans.
		if bytes.Compare(b.Min, b.Max) <= 0 {
			begins, ends = append(begins, b.Min), append(ends, b.Max)
		}
	}
	slices.SortFunc(begins, bytes.Compare)
	slices.SortFunc(ends, bytes.Compare)
	var key []byte
	most, ended := 0, 0
	for i, begin := range begins {
		for bytes.Compare(ends[ended], begin) < 0 {
			ended++
		}
		if depth := i + 1 - ended; depth > most {
			key, most = begin, depth
		}
	}
	return key
}
