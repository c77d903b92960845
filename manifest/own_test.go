package manifest_test

import (
	"bytes"
	"slices"
	"testing"

	"usance/api"
	"usance/manifest"
	"usance/vdisk"
)

// spoil writes over the whole list, its spare room too.
func spoil(b []byte) {
	b = b[:cap(b)]
	for i := range b {
		b[i] = '#'
	}
}

// spoilVersion writes over all of an answer, its spare room too.
func spoilVersion(v api.Version) {
	for _, t := range v.Tables {
		spoil(t.Lo)
		spoil(t.Hi)
	}
	clear(v.Tables[:cap(v.Tables)])
}

// wide is a version and an edit whose lists have spare room and whose keys lie one behind the other in one memory.
func wide() (api.Version, api.Edit, []byte) {
	all := []byte("aabbccddeeffspare room")
	tables := make([]api.Table, 6)
	for i := range tables {
		tables[i] = api.Table{ID: 9 - i, Level: i % 4, Count: i + 1, Lo: all[2*i : 2*i+1], Hi: all[2*i+1 : 2*i+2]}
	}
	v := api.Version{Tables: tables[:3], Log: 1, Seq: 2, Next: 10}
	e := api.Edit{Add: tables[3:5], Drop: []int{8, 9, 7}[:1], Log: 3, Seq: 4}
	return v, e, all
}

// toldWide is all of what wide made, spare room included.
func toldWide(v api.Version, e api.Edit, all []byte) string {
	drop := e.Drop[:3]
	return told(api.Version{Tables: v.Tables[:6]}) + told(v) + string(all) + string(rune('0'+drop[0])) + string(rune('0'+drop[1])) + string(rune('0'+drop[2]))
}

// What is handed in stays as it is, spare room included, and isn't kept (R4).
func TestHandedInStays(t *testing.T) {
	v, e, all := wide()
	before := toldWide(v, e, all)
	got, errno := manifest.Fold(v, e)
	is(t, "Fold", errno, api.OK)
	d := vdisk.New(never)
	m := open(t, d)
	is(t, "Apply", m.Apply(api.Edit{Add: v.Tables, Log: 1, Seq: 2}), api.OK)
	is(t, "Apply", m.Apply(e), api.OK)
	if after := toldWide(v, e, all); after != before {
		t.Fatalf("what was handed in became %s", after)
	}
	const want = `log 3 seq 4 next 10, 5/0/5 "e" "e", 6/3/4 "d" "d", 7/2/3 "c" "c", 9/0/1 "a" "a"`
	spoil(all)
	clear(v.Tables[:6])
	clear(e.Drop[:3])
	if told(got) != want {
		t.Errorf("the answer became %s", told(got))
	}
	has(t, m, want)
	has(t, open(t, d), want)
	applies(t, m, api.Edit{Drop: []int{6}, Log: 3, Seq: 4})
}

// Nor is it changed where it is refused, by whatever error.
func TestRefusedStays(t *testing.T) {
	for _, c := range []struct {
		change func(v *api.Version, e *api.Edit)
		want   api.Errno
	}{
		{func(v *api.Version, e *api.Edit) { e.Drop[0] = 1 }, api.ErrNone},
		{func(v *api.Version, e *api.Edit) { e.Log = 0 }, api.ErrRange},
		{func(v *api.Version, e *api.Edit) { e.Add[1].Level = 4 }, api.ErrRange},
		{func(v *api.Version, e *api.Edit) { e.Add[1].Hi = nil }, api.ErrKey},
		{func(v *api.Version, e *api.Edit) { e.Add[1].ID = 8 }, api.ErrTwice},
	} {
		v, e, all := wide()
		c.change(&v, &e)
		before := toldWide(v, e, all)
		refuses(t, v, e, c.want)
		if after := toldWide(v, e, all); after != before {
			t.Errorf("%d: what was handed in became %s", c.want, after)
		}
	}
}

// What is answered is nobody else's: no two lists of it share memory, nor does one with what was handed in, the manifest or an earlier answer (R4).
func TestAnswersAreNewMemory(t *testing.T) {
	v, e, all := wide()
	kept := bytes.Clone(all)
	d := vdisk.New(never)
	m := open(t, d)
	is(t, "Apply", m.Apply(api.Edit{Add: v.Tables, Log: 1, Seq: 2}), api.OK)
	calls := []func() api.Version{
		func() api.Version { got, _ := manifest.Fold(v, e); return got },
		func() api.Version { got, _ := manifest.Fold(v, api.Edit{Log: 1, Seq: 2}); return got },
		func() api.Version { got, _ := manifest.Fold(api.Version{}, e); return got },
		m.Version,
		func() api.Version { again, _ := manifest.Open(d); return again.Version() },
	}
	for i, call := range calls[:2] {
		got := call()
		if len(got.Tables) < 3 {
			t.Fatalf("call %d: %s", i, told(got))
		}
	}
	for i, call := range calls {
		first, second := call(), call()
		want := told(second)
		for k, x := range first.Tables {
			rest := told(api.Version{Tables: first.Tables[k+1:]})
			hi := string(x.Hi)
			spoil(x.Lo)
			if string(x.Hi) != hi || told(api.Version{Tables: first.Tables[k+1:]}) != rest {
				t.Fatalf("call %d: with the least key of table %d the answer became %s", i, k, told(first))
			}
			spoil(x.Hi)
			if told(api.Version{Tables: first.Tables[k+1:]}) != rest {
				t.Fatalf("call %d: with the greatest key of table %d the answer became %s", i, k, told(first))
			}
		}
		spoilVersion(first)
		if told(second) != want || told(call()) != want || !bytes.Equal(all, kept) {
			t.Fatalf("call %d: with an answer others became %s, %s, %q", i, told(second), told(call()), all)
		}
		spoilVersion(second)
		if told(call()) != want {
			t.Fatalf("call %d: with an answer the next one became %s", i, told(call()))
		}
	}
	has(t, m, `log 1 seq 2 next 10, 7/2/3 "c" "c", 8/1/2 "b" "b", 9/0/1 "a" "a"`)
}

// Keys that share memory when they are handed in don't when they are answered.
func TestSharedKeys(t *testing.T) {
	b := []byte("bb")
	e := api.Edit{Add: []api.Table{{ID: 1, Count: 1, Lo: b, Hi: b}, {ID: 2, Count: 1, Lo: b[:1], Hi: b}}}
	got, errno := manifest.Fold(api.Version{}, e)
	is(t, "Fold", errno, api.OK)
	spoil(got.Tables[0].Lo)
	spoil(got.Tables[1].Lo)
	if string(got.Tables[0].Hi) != "bb" || string(got.Tables[1].Hi) != "bb" || string(b) != "bb" {
		t.Errorf("with the least keys became %s, %q", told(got), b)
	}
}

// The names that Sweep answers are a list of its own.
func TestSweptAreNewMemory(t *testing.T) {
	d := vdisk.New(never)
	m := open(t, d)
	var answers [][]string
	for range 2 {
		d.Append("t000001.tbl", nil)
		d.Append("t000002.tbl", nil)
		names, errno := m.Sweep()
		is(t, "Sweep", errno, api.OK)
		answers = append(answers, names)
	}
	clear(answers[0][:cap(answers[0])])
	if !slices.Equal(answers[1], []string{"t000001.tbl", "t000002.tbl"}) {
		t.Errorf("with an answer another one became %q", answers[1])
	}
}

// What a call answers hangs on nothing else than what was told (R5): neither on the order in which a map is gone through, nor on another manifest.
func TestAgain(t *testing.T) {
	run := func() (string, string) {
		d := vdisk.New(never)
		m := open(t, d)
		var log string
		for _, e := range story() {
			log += applies(t, m, e) + "; "
		}
		return log, onDisk(d)
	}
	log, files := run()
	for range 20 {
		if again, others := run(); again != log || others != files {
			t.Fatalf("%s and %s, then %s and %s", log, files, again, others)
		}
	}
	v := api.Version{Tables: row(1, 300)}
	first, _ := manifest.Fold(v, api.Edit{Add: row(400, 300), Drop: ids(row(100, 100))})
	for range 20 {
		second, _ := manifest.Fold(v, api.Edit{Add: row(400, 300), Drop: ids(row(100, 100))})
		if told(first) != told(second) {
			t.Fatalf("%s, then %s", told(first), told(second))
		}
	}
}
