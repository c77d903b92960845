package mvcc_test

import (
	"fmt"
	"maps"
	"math/rand"
	"slices"
	"strings"
	"testing"

	"usance/api"
	"usance/lsm"
	"usance/mvcc"
	"usance/vdisk"
)

// step is something that a transaction does, and what it sees.
type step struct {
	call   string // get, scan, put, delete
	lo, hi string // the key or the bounds; of put hi is the value
	saw    string
}

// taken does what the step tells and answers what is seen.
func (s step) taken(t *testing.T, x *mvcc.Txn) string {
	t.Helper()
	switch s.call {
	case "get":
		return get(t, x, s.lo)
	case "scan":
		return scan(t, x, s.lo, s.hi)
	case "put":
		puts(t, x, s.lo+"="+s.hi)
	default:
		puts(t, x, s.lo)
	}
	return ""
}

// model is a transaction by the chapter's words: what it has there, what it wrote, what it looked at, step by step.
type model struct {
	txn   *mvcc.Txn
	view  int
	has   map[string]string // text by key, own writes, too
	wrote map[string]struct{}
	steps []step
}

// sees is what the model has within bounds.
func (m *model) sees(lo, hi string) string {
	return between(allOf(m.has), lo, hi)
}

// does takes a step in the transaction and in the model.
func (m *model) does(t *testing.T, s step) {
	t.Helper()
	switch s.call {
	case "get":
		s.saw = m.sees(s.lo, s.lo+"\x00")
	case "scan":
		s.saw = m.sees(s.lo, s.hi)
	case "put":
		m.has[s.lo] = s.lo + "=" + s.hi
		m.wrote[s.lo] = struct{}{}
	default:
		delete(m.has, s.lo)
		m.wrote[s.lo] = struct{}{}
	}
	same(t, fmt.Sprintf("%v at %d", s, m.view), s.taken(t, m.txn), s.saw)
	m.steps = append(m.steps, s)
}

// overtaken tells whether one of the commits wrote what the transaction looked at.
func (m *model) overtaken(later []committed) bool {
	for _, c := range later {
		for key := range c.wrote {
			for _, s := range m.steps {
				if s.call == "get" && s.lo == key || s.call == "scan" && s.lo <= key && (s.hi == "" || key < s.hi) {
					return true
				}
			}
		}
	}
	return false
}

// committed is what a commit that wrote left: the texts by key, the keys that it wrote, the steps.
type committed struct {
	left  map[string]string
	wrote map[string]struct{}
	steps []step
}

// run is a base with the transactions that haven't ended, and all that was committed.
type run struct {
	r         *rand.Rand
	store     *lsm.Store
	db        *mvcc.DB
	open      []*model
	past      []committed
	readers   map[int][][]step // those that wrote nothing, by their views
	conflicts int
}

func newRun(t *testing.T, seed int64) *run {
	t.Helper()
	s := openStore(t, vdisk.New(never), small)
	return &run{r: rand.New(rand.NewSource(seed)), store: s, db: newOver(t, s), readers: map[int][][]step{}}
}

func (r *run) begins(t *testing.T) {
	t.Helper()
	has := map[string]string{}
	if len(r.past) > 0 {
		has = maps.Clone(r.past[len(r.past)-1].left)
	}
	r.open = append(r.open, &model{begin(t, r.db), len(r.past), has, map[string]struct{}{}, nil})
}

// commits ends the transaction as the chapter says.
func (r *run) commits(t *testing.T, m *model) {
	t.Helper()
	switch {
	case len(m.wrote) == 0:
		commits(t, m.txn, m.view)
		r.readers[m.view] = append(r.readers[m.view], m.steps)
	case m.overtaken(r.past[m.view:]):
		refused(t, m.txn, api.ErrConflict)
		r.conflicts++
	default:
		commits(t, m.txn, len(r.past)+1)
		left := map[string]string{}
		if len(r.past) > 0 {
			left = maps.Clone(r.past[len(r.past)-1].left)
		}
		for key := range m.wrote {
			delete(left, key)
			if text, ok := m.has[key]; ok {
				left[key] = text
			}
		}
		r.past = append(r.past, committed{left, m.wrote, m.steps})
	}
}

// goesOn does anything, once.
func (r *run) goesOn(t *testing.T) {
	t.Helper()
	if len(r.open) == 0 || len(r.open) < 6 && r.r.Intn(6) == 0 {
		r.begins(t)
	}
	at := r.r.Intn(len(r.open))
	m := r.open[at]
	switch r.r.Intn(24) {
	case 0:
		_, errno := r.db.Compact()
		is(t, "Compact", errno, api.OK)
	case 1:
		is(t, "Flush", r.store.Flush(), api.OK)
	case 2:
		is(t, "Abort", m.txn.Abort(), api.OK)
		r.open = slices.Delete(r.open, at, at+1)
	case 3, 4, 5:
		r.commits(t, m)
		r.open = slices.Delete(r.open, at, at+1)
	default:
		m.does(t, r.anyStep())
	}
	low := len(r.past)
	for _, m := range r.open {
		low = min(low, m.view)
	}
	lowIs(t, r.db, low)
}

func (r *run) anyStep() step {
	key := func() string { return strings.Repeat(string(rune('a'+r.r.Intn(12))), 1+r.r.Intn(2)) }
	switch r.r.Intn(8) {
	case 0, 1:
		return step{call: "put", lo: key(), hi: fmt.Sprint(r.r.Intn(9))}
	case 2:
		return step{call: "delete", lo: key()}
	case 3:
		lo := key()
		return step{call: "scan", lo: lo, hi: lo[:1] + "zz"}
	case 4:
		if r.r.Intn(4) > 0 {
			return step{call: "scan", lo: key(), hi: key()}
		}
		return step{call: "scan", lo: key()[1:], hi: key()[1:]}
	default:
		return step{call: "get", lo: key()}
	}
}

// again runs what was committed one by one over a store of its own: each sees what it saw, gets the number that it got, and leaves what it left (P16.5, P2).
func (r *run) again(t *testing.T) {
	t.Helper()
	db := base(t)
	for i := 0; ; i++ {
		for _, steps := range r.readers[i] {
			x := begin(t, db)
			for _, s := range steps {
				same(t, fmt.Sprintf("one by one, %v at %d", s, i), s.taken(t, x), s.saw)
			}
			commits(t, x, i)
		}
		if i == len(r.past) {
			break
		}
		x := begin(t, db)
		for _, s := range r.past[i].steps {
			same(t, fmt.Sprintf("one by one, %v as %d", s, i+1), s.taken(t, x), s.saw)
		}
		commits(t, x, i+1)
		holds(t, db, allOf(r.past[i].left))
	}
}

// Long ways of all calls of several transactions at a time, against the chapter's words; and run one by one by their numbers (P16.1 to P16.5, P2).
func TestWays(t *testing.T) {
	done, readers, conflicts := 0, 0, 0
	for seed := range int64(60) {
		r := newRun(t, seed)
		for range 600 {
			r.goesOn(t)
		}
		r.again(t)
		done, conflicts, readers = done+len(r.past), conflicts+r.conflicts, readers+len(r.readers)
	}
	if done < 1000 || readers < 100 || conflicts < 500 {
		t.Fatalf("%d commits, %d readers, %d conflicts", done, readers, conflicts)
	}
}
