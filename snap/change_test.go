package snap

import (
	"fmt"
	"strings"
	"testing"

	"ravelin/api"
	"ravelin/engine"
	"ravelin/sheet"
	"ravelin/shelf"
	"ravelin/table"
)

func TestChanged(t *testing.T) { // P16.2: whether it tells something else, not whether somebody wrote
	for name, c := range map[string]struct {
		since [][]api.Write
		want  bool
	}{
		"nothing was done":           {nil, false},
		"a batch of nothing":         {[][]api.Write{{}}, false},
		"another key":                {[][]api.Write{{put("k\x00", "2"), del("j"), put("l", "1")}}, false},
		"another value":              {[][]api.Write{{put("k", "2")}}, true},
		"no value":                   {[][]api.Write{{put("k", "")}}, true},
		"the same value":             {[][]api.Write{{put("k", "1")}}, false},
		"gone":                       {[][]api.Write{{del("k")}}, true},
		"gone and back":              {[][]api.Write{{del("k")}, {put("k", "1")}}, false},
		"another value and back":     {[][]api.Write{{put("k", "2")}, {put("k", "1")}}, false},
		"the same value, then gone":  {[][]api.Write{{put("k", "1")}, {del("k")}}, true},
		"gone, then another value":   {[][]api.Write{{del("k")}, {put("k", "2")}}, true},
		"both in one batch":          {[][]api.Write{{put("k", "2"), put("k", "1")}}, false},
		"beside a key that is there": {[][]api.Write{{put("e", "1"), put("k", "1"), put("z", "")}}, false},
	} {
		b := lay(t)
		b.do(put("k", "1"), put("e", "1"), put("j", "1"))
		s := b.of()
		for _, l := range c.since {
			b.do(l...)
		}
		if got, err := s.Changed("k"); got != c.want || err != api.OK {
			t.Errorf("P16.2: %s: %v, %v", name, got, err)
		}
		b.check(s, 1)
	}
}

func TestChangedOfNone(t *testing.T) { // P16.2: none and "" aren't the same, none and gone are
	b := lay(t)
	b.do(put("empty", ""), put("gone", "1"))
	b.do(del("gone"))
	s := b.of()
	b.do(del("empty"), put("gone", ""), put("new", ""), del("never"))
	for key, want := range map[string]bool{"empty": true, "gone": true, "new": true, "never": false, "other": false, "": false, strings.Repeat("k", 20): false} {
		if got, err := s.Changed(key); got != want || err != api.OK {
			t.Errorf("P16.2: %q: %v, %v", key, got, err)
		}
	}
	b.do(put("empty", ""), del("gone"), del("new"))
	for _, key := range []string{"empty", "gone", "new", "never"} {
		if got, err := s.Changed(key); got || err != api.OK {
			t.Errorf("P16.2: %q: %v, %v", key, got, err)
		}
	}
}

func TestMoved(t *testing.T) { // P16.2
	b := lay(t)
	b.do(put("b", "1"), put("d", "1"), put("f", ""))
	for _, c := range []struct {
		name     string
		since    []api.Write
		from, to string
		want     bool
	}{
		{"nothing", nil, "", "", false},
		{"one more behind all", []api.Write{put("g", "")}, "", "", true},
		{"one more ahead of all", []api.Write{put("a", "")}, "", "", true},
		{"one more between", []api.Write{put("c", "")}, "", "", true},
		{"the first one gone", []api.Write{del("b")}, "", "", true},
		{"the last one gone", []api.Write{del("f")}, "", "", true},
		{"one in another one's place", []api.Write{del("f"), put("g", "")}, "", "", true},
		{"another value", []api.Write{put("d", "2")}, "", "", true},
		{"the same values", []api.Write{put("b", "1"), put("d", "1"), put("f", "")}, "", "", false},
		{"a Del of none", []api.Write{del("a"), del("c")}, "", "", false},
		{"at to", []api.Write{put("d", "2")}, "", "d", false},
		{"just below to", []api.Write{put("d", "2")}, "", "d\x00", true},
		{"at from", []api.Write{put("d", "2")}, "d", "", true},
		{"just below from", []api.Write{put("d", "2")}, "d\x00", "", false},
		{"between both", []api.Write{put("c", "")}, "b", "d", true},
		{"no key between both", []api.Write{put("d", "2")}, "d", "d", false},
		{"to below from", []api.Write{put("d", "2")}, "f", "b", false},
		{"all gone", []api.Write{del("b"), del("d"), del("f")}, "", "", true},
		{"all of them gone", []api.Write{del("d")}, "c", "e", true},
		{"the first ones of none", []api.Write{put("x", "")}, "w", "", true},
	} {
		s := b.of()
		seq := len(b.batches)
		b.do(c.since...)
		if got, err := s.Moved(c.from, c.to); got != c.want || err != api.OK {
			t.Errorf("P16.2: %s: %v, %v", c.name, got, err)
		}
		b.check(s, seq)
		s.Close()
		b.do(del("a"), put("b", "1"), del("c"), put("d", "1"), put("f", ""), del("g"), del("x"))
	}
}

func TestMovedOfMany(t *testing.T) { // P16.2: what is behind the first MaxScan isn't told
	b := lay(t)
	for i := range 70 {
		b.do(put(fmt.Sprintf("k%03d", 2*i), "1"))
	}
	seq := len(b.batches)
	s := b.of()
	for _, c := range []struct {
		since api.Write
		want  bool
	}{
		{put("k128", "2"), false}, // the 65th
		{del("k138"), false},
		{put("k127", "2"), false}, // behind the 64th
		{put("k126", "2"), true},  // the 64th
		{put("k126", "1"), false},
		{put("k000", "2"), true},
		{put("k000", "1"), false},
		{del("k010"), true}, // so that the 65th is the 64th
		{put("k009", "1"), true},
		{del("k009"), true},
		{put("k010", "1"), false},
	} {
		b.do(c.since)
		if got, err := s.Moved("", ""); got != c.want || err != api.OK {
			t.Errorf("P16.2: %v: %v, %v", c.since, got, err)
		}
		b.checkScan(s, "", "", seq)
		b.checkScan(s, "k001", "", seq)
		b.checkScan(s, "k064", "", seq)
	}
}

// crafted tells an engine up to Seq 3 with one table: of Key k it has entries up to Seq 40, and the block with those up
// to 3 is spoilt; Key a is in another one.
func crafted(t *testing.T) *engine.Engine {
	t.Helper()
	const value = "a value of some bytes"
	l := []api.Entry{{Key: "a", Seq: 1, Value: "1"}}
	for seq := 40; seq > 0; seq-- {
		l = append(l, api.Entry{Key: "k", Seq: seq, Value: value})
	}
	laid, err := table.Make(l)
	if err != api.OK {
		t.Fatal(err)
	}
	last := strings.LastIndex(laid, value)
	edit, err := sheet.Bytes(api.Edit{Come: []api.Table{{ID: 1, First: "a", End: "k", Count: len(l)}}, Log: 1, Seq: 3})
	if err != api.OK {
		t.Fatal(err)
	}
	f := shelf.New(api.MaxRoom)
	f.Put("tab-000001", laid[:last]+"A"+laid[last+1:])
	f.Put("sheet", edit)
	e, err := engine.Open(f)
	if err != api.OK {
		t.Fatal(err)
	}
	return e
}

func TestSpoilt(t *testing.T) { // P16.1, P16.2: the engine's errors
	e := crafted(t)
	s := Of(e)
	for range 40 {
		checkErr(t, s, "k", api.ErrSpoilt) // from Seq 40 on the block isn't read any more by the engine's Seq, but by 3
		if changed, err := s.Changed("a"); changed || err != api.OK {
			t.Errorf("P16.2: %v, %v", changed, err)
		}
		if moved, err := s.Moved("", "k"); moved || err != api.OK {
			t.Errorf("P16.2: %v, %v", moved, err)
		}
		if l, err := s.Scan("", "k"); fmt.Sprint(l) != "[{a 1}]" || err != api.OK {
			t.Errorf("P16.1: %v, %v", l, err)
		}
		e.Do([]api.Write{put("z", "2")}, true)
	}
	if v, ok, err := e.Get("k", e.Seq()); v == "" || !ok || err != api.OK {
		t.Fatalf("%q, %v, %v", v, ok, err)
	}
	s.Close()
	checkErr(t, s, "k", api.ErrNone) // ahead of ErrSpoilt
}
