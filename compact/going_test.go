package compact_test

import (
	"fmt"
	"math/rand"
	"slices"
	"testing"

	"usance/api"
	"usance/compact"
	"usance/manifest"
	"usance/merge"
)

const letters = 20 // that are keys

// going is a store without a disk: all that was ever written, and what its tables still have of it.
type going struct {
	r       *rand.Rand
	all     list
	version api.Version
	tables  map[int]list
	mark    int
}

// flush writes versions of some keys, under a few new numbers, and lays them into a table of level 0.
func (g *going) flush(t *testing.T) {
	t.Helper()
	var l list
	for range 1 + g.r.Intn(4) {
		g.version.Seq++
		for key := range letters {
			switch name := fmt.Sprintf("%c", 'a'+key); g.r.Intn(16) {
			case 0:
				l = append(l, of(name, g.version.Seq, fmt.Sprint(g.version.Seq)))
			case 1:
				l = append(l, dead(name, g.version.Seq))
			}
		}
	}
	if len(l) == 0 {
		return
	}
	g.all = sorted(append(g.all, l...))
	g.change(t, []list{sorted(l)}, 0, nil)
}

// change folds tables of these pieces in, and those with these IDs out.
func (g *going) change(t *testing.T, pieces []list, level int, drop []int) {
	t.Helper()
	e := api.Edit{Drop: drop, Seq: g.version.Seq}
	for i, l := range pieces {
		id := max(g.version.Next, 1) + i
		e.Add = append(e.Add, api.Table{ID: id, Level: level, Count: len(l), Lo: l[0].Key, Hi: l[len(l)-1].Key})
		g.tables[id] = l
	}
	v, errno := manifest.Fold(g.version, e)
	is(t, "Fold", errno, api.OK)
	g.version = v
	for _, id := range drop {
		delete(g.tables, id)
	}
}

// compact does what is picked, once; it answers the level to which it went, or 0.
func (g *going) compact(t *testing.T, fan, size int) int {
	t.Helper()
	g.mark += g.r.Intn(g.version.Seq - g.mark + 1)
	ids, to, ok := compact.Pick(g.version, fan)
	if !ok {
		return 0
	}
	var lists []list
	for _, id := range ids {
		lists = append(lists, g.tables[id])
	}
	pieces, errno := compact.Run(lists, g.mark, compact.Bottom(g.version, ids, to), size)
	is(t, "Run", errno, api.OK)
	g.change(t, pieces, to, ids)
	return to
}

// stands tells that from the mark on the tables show what was written, each key being asked of level after level, up to the first that has it; and that below level 0 no two tables of a level overlap.
func (g *going) stands(t *testing.T) {
	t.Helper()
	for seq := g.mark; seq <= g.version.Seq; seq++ {
		var found list
		for key := range letters {
			if e, ok := g.find(fmt.Sprintf("%c", 'a'+key), seq); ok {
				found = append(found, e)
			}
		}
		sameSeen(t, found, g.all, seq)
	}
	for i, x := range g.version.Tables {
		for _, y := range g.version.Tables[:i] {
			if x.Level > 0 && x.Level == y.Level && meets(x, []api.Table{y}) {
				t.Fatalf("at level %d %d and %d overlap", x.Level, x.ID, y.ID)
			}
		}
	}
}

// find is the key's newest entry up to seq of the first level that has one.
func (g *going) find(key string, seq int) (api.Entry, bool) {
	for level := range 4 {
		var lists []list
		for _, x := range at(g.version, level) {
			lists = append(lists, g.tables[x.ID])
		}
		l, _ := merge.Merge(lists)
		i := slices.IndexFunc(l, func(e api.Entry) bool { return string(e.Key) == key && e.Seq <= seq })
		if i >= 0 {
			return l[i], true
		}
	}
	return api.Entry{}, false
}

// A store goes on for long, is compacted now and then, and shows from its mark on what was written.
func TestGoingOn(t *testing.T) {
	went := map[int]int{}
	for n := range 40 {
		g := &going{r: rand.New(rand.NewSource(int64(n))), tables: map[int]list{}}
		fan, size := 2+n%4, 1+n%7
		for range 60 {
			g.flush(t)
			for range g.r.Intn(4) {
				went[g.compact(t, fan, size)]++
			}
			g.stands(t)
		}
	}
	if went[1] < 100 || went[2] < 100 || went[3] < 100 {
		t.Errorf("went: %v", went)
	}
}
