package engine

import (
	"fmt"
	"slices"
	"strings"
	"testing"

	"ravelin/api"
	"ravelin/merge"
	"ravelin/sheet"
)

func TestFlush(t *testing.T) { // P15.4
	b := lay(t)
	was := bytesOf(b.f)
	if b.e.Flush() != api.ErrNone || bytesOf(b.f) != was {
		t.Error("P15.4: of nothing")
	}
	b.do(false)
	if b.e.Flush() != api.ErrNone || b.e.Seq() != 1 {
		t.Error("P15.4: of a batch of nothing")
	}
	b.do(false, put("b", "1"), del("a"))
	b.do(false, put("b", "2"), put("d", ""))
	b.do(false)
	b.flush()
	want := []api.Entry{{Key: "a", Seq: 2, Del: true}, {Key: "b", Seq: 3, Value: "2"}, {Key: "b", Seq: 2, Value: "1"}, {Key: "d", Seq: 3}}
	l := b.e.Tables()
	if len(l) != 1 || l[0] != (api.Table{ID: 1, First: "a", End: "d", Count: 4}) || !slices.Equal(tableOf(t, b.f, l[0]), want) {
		t.Errorf("P15.4: %v", l)
	}
	b.check()
	b.flush() // nothing
	b.do(false, put("c", "1"))
	b.flush()
	if l := b.e.Tables(); len(l) != 2 || l[0] != (api.Table{ID: 2, First: "c", End: "c", Count: 1}) {
		t.Errorf("P15.4: %v", l)
	}
	b.open()
	b.check()
	if b.e.Seq() != 5 || b.e.Heap() != 0 {
		t.Errorf("P15.1: %s", told(b.e))
	}
}

func TestMerge(t *testing.T) { // P15.4
	b := lay(t)
	b.do(false, put("a", "1"), put("c", "1"))
	was := bytesOf(b.f)
	if b.e.Merge() != api.ErrNone || bytesOf(b.f) != was {
		t.Error("P15.4: of no table")
	}
	b.flush()
	if b.e.Merge() != api.ErrNone {
		t.Error("P15.4: of one table")
	}
	b.hold()
	b.do(false, del("a"), put("c", "2"))
	b.do(false, put("c", "3"))
	b.flush()
	b.do(false, put("c", "4"), put("q", "4")) // stays in memory
	b.merge()
	want := []api.Entry{{Key: "a", Seq: 2, Del: true}, {Key: "a", Seq: 1, Value: "1"}, {Key: "c", Seq: 3, Value: "3"}, {Key: "c", Seq: 1, Value: "1"}}
	if l := b.e.Tables(); len(l) != 1 || l[0].Tier != 1 || !slices.Equal(tableOf(t, b.f, l[0]), want) || b.e.Heap() != 2 {
		t.Errorf("P15.4: %v", l)
	}
	b.check()
	b.free(0)
	b.do(false, put("p", "4"))
	b.flush()
	b.do(false, del("p"))
	b.flush()
	b.merge() // the one of tier 1 meets them
	b.check()
	if l := b.e.Tables(); len(l) != 1 || l[0].First != "c" || l[0].End != "q" || l[0].Count != 2 {
		t.Errorf("P15.4: %v", l)
	}
	b.do(false, put("x", "5"))
	b.flush()
	b.do(false, put("z", "5"))
	b.flush()
	b.merge() // it meets none: it stays as it is
	if l := b.e.Tables(); len(l) != 2 || l[0].First != "c" || l[1].First != "x" || l[1].End != "z" {
		t.Errorf("P15.4: %v", l)
	}
	b.check()
	b.do(false, del("c"), del("q"), del("x"), del("z"))
	b.flush()
	b.do(false, del("c"), del("none"))
	b.flush()
	b.merge()
	if l := b.e.Tables(); len(l) != 0 {
		t.Errorf("P15.4: of nothing that is seen: %v", l)
	}
	b.check()
	b.open()
	b.check()
	b.do(true, put("a", "again"))
	b.flush()
	b.open()
	b.check()
}

func TestSplit(t *testing.T) { // P15.4: as many Keys in one as have at most 40 entries together
	for name, c := range map[string]struct{ of, want []int }{
		"none":                     {nil, nil},
		"one":                      {[]int{1}, []int{1}},
		"40 of one each":           {slices.Repeat([]int{1}, 40), []int{40}},
		"41 of one each":           {slices.Repeat([]int{1}, 41), []int{40, 1}},
		"81 of one each":           {slices.Repeat([]int{1}, 81), []int{40, 40, 1}},
		"40 of one Key":            {[]int{40}, []int{40}},
		"41 of one Key":            {[]int{41}, []int{41}},
		"41 between":               {[]int{1, 41, 1}, []int{1, 41, 1}},
		"41 twice":                 {[]int{41, 41}, []int{41, 41}},
		"41 behind 40":             {[]int{40, 41}, []int{40, 41}},
		"39 and one, and one":      {[]int{39, 1, 1}, []int{40, 1}},
		"39 and two":               {[]int{39, 2}, []int{39, 2}},
		"two and 39":               {[]int{2, 39}, []int{2, 39}},
		"20, 20, 20":               {[]int{20, 20, 20}, []int{40, 20}},
		"30, 11, 29, 1":            {[]int{30, 11, 29, 1}, []int{30, 40, 1}},
		"a hundred, small ones":    {[]int{3, 100, 3, 3}, []int{3, 100, 6}},
		"40, 40":                   {[]int{40, 40}, []int{40, 40}},
		"the greatest ones ahead":  {[]int{90, 50, 41, 40, 1}, []int{90, 50, 41, 40, 1}},
		"of two each, 21":          {slices.Repeat([]int{2}, 21), []int{40, 2}},
		"of three each, 14":        {slices.Repeat([]int{3}, 14), []int{39, 3}},
		"of 13 each, 4":            {slices.Repeat([]int{13}, 4), []int{39, 13}},
		"one behind what is whole": {[]int{40, 1, 39}, []int{40, 40}},
	} {
		var l []api.Entry
		for i, n := range c.of {
			for seq := n; seq > 0; seq-- {
				l = append(l, api.Entry{Key: fmt.Sprintf("k%02d", i), Seq: seq, Value: fmt.Sprint(seq)})
			}
		}
		var got []int
		var all []api.Entry
		for _, row := range split(l) {
			got = append(got, len(row))
			all = append(all, row...)
		}
		if !slices.Equal(got, c.want) || !slices.Equal(all, l) {
			t.Errorf("P15.4: %s: %v, not %v", name, got, c.want)
		}
	}
}

func TestTablesOfAMerge(t *testing.T) { // P15.4
	b := lay(t)
	for i := range 45 { // of one Key, each one held
		b.do(false, put("m", fmt.Sprint(i)))
		b.hold()
	}
	for i := range 15 {
		var l []api.Write
		for j := range 8 {
			l = append(l, put(fmt.Sprintf("%c%02d", "ahnt"[j%4], i+15*(j/4)), ""))
		}
		b.do(false, l...)
		if i == 7 {
			b.flush()
		}
	}
	b.flush()
	b.merge()
	var got []string
	for _, a := range b.e.Tables() {
		got = append(got, fmt.Sprintf("%s-%s:%d", a.First, a.End, a.Count))
	}
	if want := "a00-h09:40 h10-h29:20 m-m:45 n00-t09:40 t10-t29:20"; strings.Join(got, " ") != want {
		t.Errorf("P15.4: %v, not %s", got, want)
	}
	b.check()
}

func TestCrashWithinAChange(t *testing.T) { // P15.5: all comes ahead of the sheet, and goes behind it
	b := lay(t)
	for i := range 30 {
		b.do(true, put(fmt.Sprintf("k%d", i%7), fmt.Sprint(i)), put(fmt.Sprintf("l%d", i), ""), put(fmt.Sprintf("m%d", i), ""), del(fmt.Sprintf("k%d", i%5)))
		if i == 10 || i == 20 {
			b.flush()
		}
	}
	within := func(name string, change func(e *Engine) change) {
		probe := b.f.Copy()
		e, _ := Open(probe)
		c := change(e)
		laid, _ := sheet.Bytes(c.edit)
		if !c.turn(probe, laid) || probe.Loose() < 4 {
			t.Fatalf("%s: %d acts", name, probe.Loose())
		}
		for acts := range probe.Loose() + 1 {
			for _, bytes := range []int{0, 1, 50, 100, 200, 1000} {
				f := probe.Copy()
				f.Crash(acts, bytes)
				crashed(t, f, b)
				if t.Failed() {
					t.Fatalf("%s: %d acts, %d bytes", name, acts, bytes)
				}
			}
		}
	}
	within("flush", func(e *Engine) change {
		c := e.change(nil, [][]api.Entry{e.heap.All()}, free)
		c.moveOn(e.sheet.Log(), e.log, e.seq)
		return c
	})
	within("merge", func(e *Engine) change {
		l, _ := e.read(nil, e.Tables(), "", "")
		return e.change(e.Tables(), split(merge.Pack(l, nil, true)), apart)
	})
}

// roomy holds a call at each room from none left on: ErrFull, and nothing is changed, until there is enough.
func roomy(t *testing.T, name string, b *bed, call func(e *Engine) api.Errno) {
	t.Helper()
	least := -1
	for room := 0; ; room++ {
		f := b.f.Copy()
		e, _ := Open(f)
		for _, seq := range b.held {
			e.Hold(seq)
		}
		f.Keep()
		f.Room(f.Used() + room)
		was, bytes := told(e), bytesOf(f)
		if err := call(e); err == api.OK {
			least = room
			break
		} else if err != api.ErrFull || told(e) != was || bytesOf(f) != bytes || room > 100000 {
			t.Fatalf("P15.4: %s, %d bytes left: %v, %s", name, room, err, told(e))
		}
		if room%50 == 0 {
			seen(t, e, b.batches, append(b.held, len(b.batches))...)
			tidy(t, f, e)
		}
	}
	if least < 1 {
		t.Errorf("P15.4: %s with %d bytes", name, least)
	}
	files(t, name, b, call)
}

// files holds a call with each number of files.
func files(t *testing.T, name string, b *bed, call func(e *Engine) api.Errno) {
	t.Helper()
	done := false
	for left := range 10 {
		f := b.f.Copy()
		for i := len(f.Names()); i < api.MaxFiles-left; i++ {
			f.Put(fmt.Sprint("x", i), "")
		}
		e, err := Open(f)
		if err != api.OK {
			t.Fatalf("P15.1: %v", err)
		}
		f.Keep()
		was, bytes := told(e), bytesOf(f)
		err = call(e)
		switch {
		case err == api.OK && left > 0:
			done = true
		case err != api.ErrFull || done || told(e) != was || bytesOf(f) != bytes:
			t.Errorf("P15.4: %s, %d files left: %v", name, left, err)
		}
		seen(t, e, b.batches, len(b.batches))
		tidy(t, f, e)
	}
	if !done {
		t.Errorf("P15.4: %s: never done", name)
	}
}

func TestRoom(t *testing.T) { // P15.4
	b := lay(t)
	b.do(true, put("a", "1"), put("b", "2"))
	b.flush()
	b.hold()
	b.do(true, put("a", "3"), del("c"))
	roomy(t, "flush", b, (*Engine).Flush)
	b.flush()
	b.do(true, put("b", "5"))
	roomy(t, "merge", b, (*Engine).Merge)
}

func TestManyTables(t *testing.T) { // P15.4: ErrMany
	b := lay(t)
	for i := range api.MaxTables {
		b.do(false, put(fmt.Sprintf("k%02d", i%9), fmt.Sprint(i)))
		b.flush()
	}
	b.do(true, put("one", "more"))
	was, bytes := told(b.e), bytesOf(b.f)
	if err := b.e.Flush(); err != api.ErrMany || told(b.e) != was || bytesOf(b.f) != bytes {
		t.Errorf("P15.4: %v, %s", err, told(b.e))
	}
	b.f.Room(b.f.Used() + 10)
	if err := b.e.Flush(); err != api.ErrFull || told(b.e) != was { // ahead of ErrMany
		t.Errorf("P15.4: %v", err)
	}
	b.f.Room(api.MaxRoom)
	b.check()
	b.open()
	b.merge()
	b.flush()
	b.check()
	if l := b.e.Tables(); len(l) != 2 || l[0].Count != 1 || l[1].Count != 9 {
		t.Errorf("P15.4: %v", l)
	}
}

// filled tells a bed with two tables, of that many keys together.
func filled(t *testing.T, keys int) *bed {
	t.Helper()
	b := lay(t)
	for i := 0; i < keys; i += 8 {
		var l []api.Write
		for j := i; j < min(i+8, keys); j++ {
			l = append(l, put(fmt.Sprintf("k%04d", j), "v"))
		}
		b.do(false, l...)
		if i == 800 {
			b.flush()
		}
	}
	b.flush()
	return b
}

func TestManyTablesOfAMerge(t *testing.T) { // P15.4: ErrMany
	b := filled(t, 1600)
	b.merge()
	if l := b.e.Tables(); len(l) != 40 || l[0].Count != 40 || l[39].Count != 40 {
		t.Errorf("P15.4: %v", l)
	}
	tidy(t, b.f, b.e)
	for key := range 1600 {
		if v, ok, err := b.e.Get(fmt.Sprintf("k%04d", key), 1<<40); v != "v" || !ok || err != api.OK {
			t.Fatalf("P15.3: %d: %q, %v, %v", key, v, ok, err)
		}
	}
	b = filled(t, 1601)
	was, bytes := told(b.e), bytesOf(b.f)
	if err := b.e.Merge(); err != api.ErrMany || told(b.e) != was || bytesOf(b.f) != bytes {
		t.Errorf("P15.4: %v, %s", err, told(b.e))
	}
	b.f.Room(b.f.Used() + 100)
	if err := b.e.Merge(); err != api.ErrFull || told(b.e) != was {
		t.Errorf("P15.4: %v", err)
	}
}

func TestOtherEnds(t *testing.T) { // a sheet that tells other ends than its tables have: each call ends, and errs as its chapter says
	in := [][]api.Entry{{{Key: "d", Seq: 1}}, {{Key: "a", Seq: 2}, {Key: "z", Seq: 2}}, {{Key: "b", Seq: 3}}}
	f := sheetOf(t, api.Edit{Come: []api.Table{{ID: 1, Tier: 1}, {ID: 2}, {ID: 3}}, Log: 1, Seq: 3}, in...)
	laid, _ := sheet.Bytes(api.Edit{Come: []api.Table{{ID: 1, Tier: 1, First: "d", End: "d", Count: 1}, {ID: 2, First: "a", End: "a", Count: 1}, {ID: 3, First: "b", End: "b", Count: 1}}, Log: 1, Seq: 3})
	f.Drop("sheet")
	f.Put("sheet", laid)
	e, err := Open(f)
	if err != api.OK {
		t.Fatalf("P15.1: %v", err)
	}
	f.Keep()
	was := bytesOf(f)
	if err := e.Merge(); err != api.ErrSpoilt || bytesOf(f) != was { // what was merged would meet the one of tier 1
		t.Errorf("P15.4: %v", err)
	}
}

func TestBottom(t *testing.T) { // P15.4
	in := [][]api.Entry{{{Key: "d", Seq: 1}, {Key: "f", Seq: 1}}, {{Key: "a", Seq: 2}}, {{Key: "b", Seq: 3}}}
	e, err := Open(sheetOf(t, api.Edit{Come: []api.Table{{ID: 1, Tier: 1}, {ID: 2}, {ID: 3}}, Log: 1, Seq: 3}, in...))
	if err != api.OK {
		t.Fatal(err)
	}
	all := e.Tables()
	for key, want := range map[string]bool{"a": true, "c\xff": true, "d": false, "e": false, "f": false, "f\x00": true} {
		l := []api.Entry{{Key: "b", Seq: 9}, {Key: key, Seq: 8}}
		if got := e.isBottom(all[:2], l); got != want {
			t.Errorf("P15.4: %q: %v", key, got)
		}
		if !e.isBottom(all, l) {
			t.Errorf("P15.4: %q, of all tables", key)
		}
	}
	if told(e) != "3 0 "+fmt.Sprint(all) {
		t.Error("the sheet is changed")
	}
}
