package merge_test

import (
	"math"
	"slices"
	"strings"
	"testing"

	"usance/api"
	"usance/merge"
)

// refusesAll tells that no call takes the list, at any number.
func refusesAll(t *testing.T, l list) {
	t.Helper()
	refuses(t, []list{l}, api.ErrKey)
	for _, seq := range someSeqs {
		pairs, errno := merge.Visible(l, seq)
		if is(t, "Visible", errno, api.ErrKey); len(pairs) > 0 {
			t.Fatalf("Visible beside an error: %v", pairs)
		}
		for _, bottom := range []bool{false, true} {
			thin, errno := merge.Thin(l, seq, bottom)
			if is(t, "Thin", errno, api.ErrKey); len(thin) > 0 {
				t.Fatalf("Thin beside an error: %v", thin)
			}
		}
	}
}

// What may not be, alone and wherever it stands, though it stands where nothing of it would be answered.
func TestMayNotBe(t *testing.T) {
	for _, e := range []api.Entry{
		of("", 1, ""),
		{Seq: 1},
		of(strings.Repeat("b", 201), 1, ""),
		of("b", 0, ""),
		of("b", -1, ""),
		of("b", math.MinInt, ""),
		of("b", 1<<40+1, ""),
		of("b", math.MaxInt, ""),
		of("b", 1, strings.Repeat("v", 4097)),
		{Key: []byte("b"), Seq: 1, Dead: true, Value: []byte("v")},
	} {
		first, last := of("a", 3, ""), of("c", 3, "")
		for _, l := range []list{{e}, {first, e}, {e, last}, {first, e, last}, {first, of("b", 1<<40, ""), e, last}} {
			refusesAll(t, l)
			for _, beside := range []list{nil, {of("d", 1, "")}, {first}, {last}} {
				refuses(t, []list{l, beside}, api.ErrKey)
				refuses(t, []list{beside, l}, api.ErrKey)
			}
		}
	}
}

// At the bounds of what may be all calls answer.
func TestAtTheBounds(t *testing.T) {
	key, value := strings.Repeat("k", 200), strings.Repeat("v", 4096)
	l := list{of("\x00", 1, ""), of(key, 1<<40, value), dead(key, 1<<40-1), of(key, 1, value)}
	merges(t, []list{l[1:2], l[2:], l[:1]}, tellAll(l))
	for _, seq := range append(someSeqs, 1<<40-2, 1<<40-1, 1<<40+1) {
		sees(t, l, seq, seen(l, seq))
		thins(t, l, seq, false, needed(l, seq, false))
		thins(t, l, seq, true, needed(l, seq, true))
	}
}

// Keys rise byte by byte, and of one key the numbers fall: what doesn't, isn't in order, nor what is there twice in one list.
func TestNotInOrder(t *testing.T) {
	inOrder := list{
		of("\x00", 9, ""), of("a", 3, "x"), dead("a", 2), of("a", 1, ""),
		of("a\x00", 3, ""), of("aa", 3, ""), of("b", 1, ""), of("\x7f", 1, ""), of("\x80", 1, ""), of("\xff", 1, ""), of("\xff\xff", 2, ""),
	}
	merges(t, []list{inOrder}, tellAll(inOrder))
	for i, x := range inOrder {
		for _, y := range inOrder[:i+1] {
			refusesAll(t, list{x, y})
			refusesAll(t, list{of("\x00", 10, ""), x, y, of("\xff\xff\xff", 1, "")})
			refuses(t, []list{{x}, {x, y}}, api.ErrKey)
			if string(x.Key) != string(y.Key) || x.Seq != y.Seq {
				merges(t, []list{{x}, {y}}, tellAll(sorted(list{x, y})))
			}
		}
	}
	refusesAll(t, list{of("a", 3, ""), dead("a", 3)})
}

// Two lists have one key and number, whatever either tells of it, wherever it stands, next to one another or not, one list handed in twice.
func TestTwice(t *testing.T) {
	l := list{of("a", 3, "x"), dead("a", 2), of("b", 3, ""), of("c", 1, "")}
	other := list{of("aa", 3, ""), of("d", 1, "")}
	for _, e := range l {
		for _, again := range []api.Entry{e, dead(string(e.Key), e.Seq), of(string(e.Key), e.Seq, "other")} {
			for _, lists := range [][]list{{l, {again}}, {{again}, l}, {l, other, {again}}, {nil, {again}, other, nil, l}, {{again}, {again}, {again}}, {l, sorted(append(slices.Clone(other), again))}} {
				refuses(t, lists, api.ErrTwice)
			}
		}
	}
	refuses(t, []list{l, l}, api.ErrTwice)
	refuses(t, []list{l, other, l}, api.ErrTwice)
	refuses(t, []list{l, l[3:]}, api.ErrTwice)
	merges(t, []list{l, other, l[:0], l[4:]}, tellAll(sorted(append(slices.Clone(l), other...))))
}

// Of several errors the one that is named first is answered, wherever it stands.
func TestErrorsInOrder(t *testing.T) {
	twice := list{of("a", 1, "")}
	for _, bad := range []list{{of("z", 0, "")}, {of("z", 1, ""), of("y", 1, "")}, {of("a", 1, ""), of("a", 1, "")}} {
		refuses(t, []list{twice, twice, bad}, api.ErrKey)
		refuses(t, []list{twice, bad, twice}, api.ErrKey)
		refuses(t, []list{bad, twice, twice}, api.ErrKey)
		refuses(t, []list{bad, bad}, api.ErrKey)
	}
}
