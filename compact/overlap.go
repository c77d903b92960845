package compact

import (
	"bytes"

	"usance/api"
)

// overlapping answers what tells of a table whether it overlaps the range from the least Lo to the greatest Hi of these; where there are none, no table does.
func overlapping(tables []api.Table) func(api.Table) bool {
	if len(tables) == 0 {
		return func(api.Table) bool { return false }
	}
	lo, hi := tables[0].Lo, tables[0].Hi
	for _, t := range tables[1:] {
		if bytes.Compare(t.Lo, lo) < 0 {
			lo = t.Lo
		}
		if bytes.Compare(t.Hi, hi) > 0 {
			hi = t.Hi
		}
	}
	return func(t api.Table) bool { return bytes.Compare(t.Lo, hi) <= 0 && bytes.Compare(t.Hi, lo) >= 0 }
}

// chosen answers the tables that are wanted, in their order.
func chosen(tables []api.Table, isWanted func(api.Table) bool) []api.Table {
	var list []api.Table
	for _, t := range tables {
		if isWanted(t) {
			list = append(list, t)
		}
	}
	return list
}

func tablesAt(tables []api.Table, level int) []api.Table {
	return chosen(tables, func(t api.Table) bool { return t.Level == level })
}
