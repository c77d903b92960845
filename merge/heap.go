package merge

// heap gives out first what stands ahead of all that it has.
type heap[T any] struct {
	items []T // none stands ahead of the one at half its place (parent)
	order func(x, y T) int
}

func parent(at int) int { return (at - 1) / 2 }

func child(at int) int { return 2*at + 1 }

func (h *heap[T]) len() int { return len(h.items) }

func (h *heap[T]) isAhead(i, k int) bool { return h.order(h.items[i], h.items[k]) < 0 }

func (h *heap[T]) swap(i, k int) { h.items[i], h.items[k] = h.items[k], h.items[i] }

func (h *heap[T]) put(x T) {
	h.items = append(h.items, x)
	for at := h.len() - 1; at > 0 && h.isAhead(at, parent(at)); at = parent(at) {
		h.swap(at, parent(at))
	}
}

// take is for a heap that has something.
func (h *heap[T]) take() T {
	first, last := h.items[0], h.len()-1
	h.swap(0, last)
	h.items = h.items[:last]
	for at := 0; child(at) < last; {
		next := child(at)
		if next+1 < last && h.isAhead(next+1, next) {
			next++
		}
		if !h.isAhead(next, at) {
			break
		}
		h.swap(next, at)
		at = next
	}
	return first
}
