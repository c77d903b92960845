package mvcc

import "usance/api"

// history is which keys commits wrote. Of each key the last commit alone is kept: whoever is in conflict with one ahead of it is so with that one, too, and a transaction that never ends doesn't let the history grow with every write.
type history struct {
	last map[string]int              // by key, the number
	keys map[int]map[string]struct{} // by number, the keys of which it is the last one
}

func newHistory() history {
	return history{map[string]int{}, map[int]map[string]struct{}{}}
}

// add takes note of a commit, whose number is above all that there are.
func (h history) add(seq int, writes map[string]api.Op) {
	keys := map[string]struct{}{}
	for key := range writes {
		h.drop(key)
		h.last[key] = seq
		keys[key] = struct{}{}
	}
	h.keys[seq] = keys
}

// drop lets a key go.
func (h history) drop(key string) {
	seq := h.last[key]
	delete(h.last, key)
	delete(h.keys[seq], key)
	if len(h.keys[seq]) == 0 {
		delete(h.keys, seq)
	}
}

// forget lets go of all keys of which this commit is the last one.
func (h history) forget(seq int) {
	for key := range h.keys[seq] {
		delete(h.last, key)
	}
	delete(h.keys, seq)
}

// wrote tells whether the commits above a number, up to another one, wrote a key for which asked answers true.
func (h history) wrote(above, upTo int, asked func(key string) bool) bool {
	for seq := above + 1; seq <= upTo; seq++ {
		for key := range h.keys[seq] {
			if asked(key) {
				return true
			}
		}
	}
	return false
}
