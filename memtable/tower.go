package memtable

import (
	"usance/api"
	"usance/entry"
)

const (
	head = 0 // the place of the node that all begin at, and that has no entry
	none = 0 // what a tower tells where no node follows: none is followed by the head
)

// node is an entry with its tower.
type node struct {
	entry api.Entry
	tower tower
}

// tower tells at each height a place in a table's nodes: that of the next one that is as high.
type tower [api.MaxHeight]int

func (t *Table) next(at int) int { return t.nodes[at].tower[0] }

// from answers the place of the first entry that doesn't stand ahead of e, which needn't be one itself.
func (t *Table) from(e api.Entry) int {
	return t.next(t.ahead(e)[0])
}

// ahead tells at each height the place of the last node that is as high and ahead of e.
func (t *Table) ahead(e api.Entry) tower {
	var last tower
	at := head
	for height := api.MaxHeight - 1; height >= 0; height-- {
		for next := t.nodes[at].tower[height]; t.isAhead(next, e); next = t.nodes[at].tower[height] {
			at = next
		}
		last[height] = at
	}
	return last
}

func (t *Table) isAhead(at int, e api.Entry) bool {
	return at != none && entry.Order(t.nodes[at].entry, e) < 0
}

// insert puts the entry behind the nodes that are ahead of it, as high as its turn tells.
func (t *Table) insert(e api.Entry, ahead tower) {
	n := node{entry: entry.Clone(e)}
	for height := range t.height() {
		last := &t.nodes[ahead[height]]
		n.tower[height] = last.tower[height]
		last.tower[height] = len(t.nodes)
	}
	t.nodes = append(t.nodes, n)
}

// height is that of the tower that the next entry gets.
func (t *Table) height() int {
	if len(t.heights) == 0 {
		return 1
	}
	return min(max(t.heights[t.Len()%len(t.heights)], 1), api.MaxHeight)
}
