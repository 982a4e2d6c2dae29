package engine

import (
	"fmt"
	"math/rand"
	"slices"
	"strings"
	"testing"

	"ravelin/api"
	"ravelin/batch"
	"ravelin/entry"
	"ravelin/sheet"
	"ravelin/shelf"
	"ravelin/table"
)

func TestCrash(t *testing.T) { // P15.5: each place of a crash
	r := rand.New(rand.NewSource(5))
	for round := range 60 {
		b := lay(t)
		for range r.Intn(25) {
			b.step(r, 5)
		}
		for acts := range b.f.Loose() + 1 {
			for _, bytes := range []int{0, 1, 2, 3, 5, 8, 13, 21, 34, 1 << 40} {
				f := b.f.Copy()
				f.Crash(acts, bytes)
				crashed(t, f, b)
				if t.Failed() {
					t.Fatalf("round %d, %d acts, %d bytes", round, acts, bytes)
				}
			}
		}
	}
}

// crashed opens a shelf behind a crash, and goes on there.
func crashed(t *testing.T, f *shelf.Shelf, b *bed) {
	t.Helper()
	e, err := Open(f)
	if err != api.OK {
		t.Fatalf("P15.5: %v", err)
	}
	n := e.Seq()
	if n < b.kept || n > len(b.batches) {
		t.Fatalf("P15.5: %d, %d were kept, of %d", n, b.kept, len(b.batches))
	}
	on := &bed{t: t, f: f, e: e, batches: slices.Clone(b.batches[:n])}
	on.check()
	opened := f.Copy()
	opened.Crash(opened.Loose()/2, 3) // in the midst of what Open does
	if again, err := Open(opened); err != api.OK || told(again) != told(e) && n > 0 {
		t.Errorf("P15.5: opened again: %v", err)
	}
	on.do(true, put("k1", "more"), del("k2"))
	f.Crash(0, 0)
	on.open()
	on.check()
}

func TestEachByteOfACrash(t *testing.T) { // P15.5
	b := lay(t)
	b.do(true, put("a", "1"))
	b.do(false, put("b", "2"), put("c", "22222"))
	b.do(false, del("a"))
	laid, _ := batch.Bytes(2, b.batches[1])
	for bytes := range len(laid) + 1 {
		f := b.f.Copy()
		f.Crash(0, bytes)
		e, err := Open(f)
		want := 1
		if bytes == len(laid) {
			want = 2
		}
		if err != api.OK || e.Seq() != want {
			t.Errorf("P15.5: %d of %d bytes: %v, %d", bytes, len(laid), err, e.Seq())
		}
		seen(t, e, b.batches[:want], want)
		tidy(t, f, e)
	}
}

func TestCrashOfANewOne(t *testing.T) { // P15.1, P15.5
	laid, _ := batch.Bytes(1, []api.Write{put("a", "never")})
	f := shelf.New(api.MaxRoom)
	for _, name := range []string{"log-000001", "log-000002", "tab-000001", "new"} {
		f.Put(name, laid)
	}
	f.Keep()
	probe := f.Copy()
	Open(probe)
	if probe.Loose() < 5 {
		t.Fatalf("%d acts", probe.Loose())
	}
	for acts := range probe.Loose() + 1 {
		for bytes := range 30 {
			g := probe.Copy()
			g.Crash(acts, bytes)
			e, err := Open(g)
			if err != api.OK || e.Seq() != 0 {
				t.Fatalf("P15.5: %d acts, %d bytes: %v, %d", acts, bytes, err, e.Seq())
			}
			tidy(t, g, e)
		}
	}
}

func TestRoomOfAnOpen(t *testing.T) { // P15.1
	sheetSize := 0
	for room := range 60 {
		f := shelf.New(room)
		f.Put("new", "12345")
		f.Keep()
		was := bytesOf(f)
		e, err := Open(f)
		switch {
		case err == api.OK && e != nil:
			sheetSize = f.Used()
			tidy(t, f, e)
		case err != api.ErrFull || e != nil || sheetSize > 0 || bytesOf(f) != was:
			t.Errorf("P15.1: room %d: %v", room, err)
		}
	}
	b := lay(t)
	b.do(true, put("a", "1"))
	laid, _ := b.f.Get("log-000001")
	b.do(false, put("a", "2"))
	b.f.Crash(0, 5) // to be cut off: the log has to be written anew
	for room := range len(laid) + 2 {
		f := b.f.Copy()
		f.Room(f.Used() + room)
		was := bytesOf(f)
		e, err := Open(f)
		if room < len(laid) {
			if e != nil || err != api.ErrFull || bytesOf(f) != was {
				t.Errorf("P15.1: %d bytes left: %v", room, err)
			}
			f.Room(api.MaxRoom)
			e, err = Open(f)
		}
		if err != api.OK {
			t.Fatalf("P15.1: %d bytes left: %v", room, err)
		}
		seen(t, e, b.batches[:1], 1)
		tidy(t, f, e)
	}
	full := func(f *shelf.Shelf) *shelf.Shelf {
		for i := 0; f.Put(fmt.Sprint("x", i), "") == api.OK; i++ {
		}
		return f
	}
	if e, err := Open(full(shelf.New(api.MaxRoom))); e != nil || err != api.ErrFull {
		t.Errorf("P15.1: of 60 files of others: %v", err)
	}
	if e, err := Open(full(b.f.Copy())); e != nil || err != api.ErrFull {
		t.Errorf("P15.1: no file for a log that is written anew: %v", err)
	}
	whole := lay(t)
	whole.do(true, put("a", "1"))
	full(whole.f).Room(0)
	whole.open() // nothing has to be done
	whole.check()
	whole.f.Drop("log-000001")
	whole.f.Put("x", "")
	if e, err := Open(whole.f); e != nil || err != api.ErrFull {
		t.Errorf("P15.1: no file for a log that isn't there: %v", err)
	}
}

func TestNames(t *testing.T) { // P15.1: what belongs to nothing goes
	strays := []string{"new", "log-000000", "log-000001", "log-000004", "log-000009", "log-999999", "log-1000000", "tab-000000", "tab-000002", "tab-000777", "tab-999999", "tab-1000000"}
	others := []string{"road", "x", "log", "tab", "log-", "tab-", "log-1", "tab-00001", "log-00000", "log-0000002", "tab-0000001", "log-1000001", "tab-9999999", "log-00000a", "tab--00001", "tab-new", "xlog-000005", "sheet-000001", "sheet2", "new-", "0"}
	shelves := map[string]func() *shelf.Shelf{
		"new": func() *shelf.Shelf { return shelf.New(api.MaxRoom) },
		"old": func() *shelf.Shelf {
			b := lay(t)
			b.do(true, put("a", "1"))
			b.flush()
			b.do(true, put("b", "2"))
			return b.f
		},
	}
	for name, make := range shelves {
		f := make()
		var want []string
		for _, s := range append(slices.Clone(strays), others...) {
			f.Put(s, "whatever") // not what is there already
		}
		want = append(want, others...)
		e, err := Open(f)
		if err != api.OK {
			t.Fatalf("P15.1: %v", err)
		}
		want = append(want, "sheet")
		if name == "new" {
			want = append(want, "log-000001")
		} else {
			want = append(want, "log-000002", "tab-000001")
		}
		slices.Sort(want)
		if got := f.Names(); !slices.Equal(got, want) {
			t.Errorf("P15.1: %s: %v, not %v", name, got, want)
		}
		for _, s := range others {
			if laid, _ := f.Get(s); laid != "whatever" {
				t.Errorf("P15.1: %s: %q", s, laid)
			}
		}
		if name == "old" && (e.Seq() != 2 || e.Heap() != 1) {
			t.Errorf("P15.1: %s", told(e))
		}
	}
}

func TestLogs(t *testing.T) { // P15.1
	log := func(seqs ...int) string {
		s := ""
		for _, seq := range seqs {
			laid, _ := batch.Bytes(seq, []api.Write{put("a", fmt.Sprint(seq)), put(fmt.Sprint("k", seq), "")})
			s += laid
		}
		return s
	}
	torn := log(99)[:9]
	for name, c := range map[string]struct {
		logs map[int]string
		want int
		left map[int]string
	}{
		"none":                      {nil, 3, map[int]string{5: ""}},
		"an empty one":              {map[int]string{5: ""}, 3, map[int]string{5: ""}},
		"one":                       {map[int]string{5: log(4, 5)}, 5, map[int]string{5: log(4, 5)}},
		"two":                       {map[int]string{5: log(4, 5), 6: log(6)}, 6, map[int]string{5: log(4, 5), 6: log(6)}},
		"an empty one between":      {map[int]string{5: log(4, 5), 6: "", 7: log(6, 7)}, 7, map[int]string{5: log(4, 5), 6: "", 7: log(6, 7)}},
		"one that lacks":            {map[int]string{5: log(4, 5), 7: log(6)}, 5, map[int]string{5: log(4, 5)}},
		"the first one lacks":       {map[int]string{6: log(4, 5)}, 3, map[int]string{5: ""}},
		"older ones":                {map[int]string{3: log(1), 4: log(2, 3), 5: log(4)}, 4, map[int]string{5: log(4)}},
		"what is in tables":         {map[int]string{5: log(3, 4, 5)}, 3, map[int]string{5: ""}},
		"all of it in tables":       {map[int]string{5: log(1, 2, 3)}, 3, map[int]string{5: ""}},
		"a gap ahead":               {map[int]string{5: log(5, 6)}, 3, map[int]string{5: ""}},
		"a gap within":              {map[int]string{5: log(4, 5) + log(7)}, 5, map[int]string{5: log(4, 5)}},
		"a gap within, then on":     {map[int]string{5: log(4, 5) + log(7), 6: log(6)}, 6, map[int]string{5: log(4, 5), 6: log(6)}},
		"a gap between":             {map[int]string{5: log(4), 6: log(6), 7: log(5)}, 4, map[int]string{5: log(4)}},
		"one twice":                 {map[int]string{5: log(4), 6: log(4, 5)}, 4, map[int]string{5: log(4)}},
		"torn":                      {map[int]string{5: log(4, 5) + torn}, 5, map[int]string{5: log(4, 5)}},
		"torn, then on":             {map[int]string{5: log(4, 5) + torn, 6: log(6) + "x"}, 6, map[int]string{5: log(4, 5), 6: log(6)}},
		"torn at its beginning":     {map[int]string{5: torn}, 3, map[int]string{5: ""}},
		"nothing of it whole":       {map[int]string{5: "whatever", 6: log(4)}, 4, map[int]string{5: "", 6: log(4)}},
		"whole ones behind a fault": {map[int]string{5: log(4) + "x" + log(5)}, 4, map[int]string{5: log(4)}},
	} {
		var batches [][]api.Write
		for seq := 1; seq <= 9; seq++ {
			batches = append(batches, []api.Write{put("a", fmt.Sprint(seq)), put(fmt.Sprint("k", seq), "")})
		}
		in := [][]api.Entry{{{Key: "a", Seq: 3, Value: "3"}, {Key: "a", Seq: 2, Value: "2"}, {Key: "a", Seq: 1, Value: "1"}, {Key: "k1", Seq: 1}, {Key: "k2", Seq: 2}, {Key: "k3", Seq: 3}}}
		f := sheetOf(t, api.Edit{Come: []api.Table{{ID: 4}}, Log: 5, Seq: 3}, in...)
		for n, laid := range c.logs {
			f.Put(fmt.Sprintf("log-%06d", n), laid)
		}
		e, err := Open(f)
		if err != api.OK || e.Seq() != c.want {
			t.Errorf("P15.1: %s: %v, %d, not %d", name, err, e.Seq(), c.want)
			continue
		}
		seen(t, e, batches[:c.want], 0, 1, 2, 3, c.want, c.want+1)
		tidy(t, f, e)
		last := 0
		for n, want := range c.left {
			last = max(last, n)
			if laid, err := f.Get(fmt.Sprintf("log-%06d", n)); laid != want || err != api.OK {
				t.Errorf("P15.1: %s: log %d: %q, not %q", name, n, laid, want)
			}
		}
		if got := len(f.Names()); got != 2+len(c.left) {
			t.Errorf("P15.1: %s: %v", name, f.Names())
		}
		if n, err := e.Do(batches[c.want], true); n != c.want+1 || err != api.OK {
			t.Errorf("P15.2: %s: %d, %v", name, n, err)
		}
		tidy(t, f, e)
		if e.Flush() != api.OK || e.Heap() != 0 {
			t.Errorf("P15.4: %s", name)
		}
		tidy(t, f, e)
		seen(t, e, batches[:c.want+1], c.want+1)
	}
}

func TestSheets(t *testing.T) { // P15.1
	first, _ := sheet.Bytes(api.Edit{Come: []api.Table{{ID: 2, First: "a", End: "a", Count: 1}}, Seq: 1})
	second, _ := sheet.Bytes(api.Edit{Gone: []int{2}, Come: []api.Table{{ID: 7, Tier: 1, First: "b", End: "b", Count: 1}}, Log: 3, Seq: 2})
	laid, _ := table.Make([]api.Entry{{Key: "b", Seq: 2, Value: "2"}})
	f := shelf.New(api.MaxRoom)
	f.Put("sheet", first+second)
	f.Put("tab-000007", laid)
	f.Put("tab-000002", laid)
	e, err := Open(f)
	if err != api.OK || e.Seq() != 2 || len(e.Tables()) != 1 || e.Tables()[0].ID != 7 {
		t.Fatalf("P15.1: of several edits: %v", err)
	}
	seen(t, e, [][]api.Write{nil, {put("b", "2")}}, 2)
	tidy(t, f, e)
	for cut := range len(second) { // of what is behind the first edit nothing can be read
		f := shelf.New(api.MaxRoom)
		f.Put("sheet", first+second[:cut])
		f.Put("tab-000002", laid)
		e, err := Open(f)
		if err != api.OK || e.Seq() != 1 || len(e.Tables()) != 1 {
			t.Fatalf("P15.1: %d bytes of the second edit: %v", cut, err)
		}
		if got, _ := f.Get("sheet"); got != first {
			t.Errorf("P15.1: %d bytes of the second edit: %q", cut, got)
		}
	}
	for cut := range len(first) {
		for _, s := range []string{first[:cut], first[:cut] + "\xfe" + first[min(cut+1, len(first)):]} {
			f := shelf.New(api.MaxRoom)
			f.Put("sheet", s)
			f.Put("tab-000002", laid)
			f.Put("new", "x")
			was := bytesOf(f)
			if e, err := Open(f); s != first && (e != nil || err != api.ErrSpoilt || bytesOf(f) != was) {
				t.Errorf("P15.1: a sheet %q: %v", s, err)
			}
		}
	}
}

func TestSpoilt(t *testing.T) { // P15.1, P15.3, P15.4
	b := lay(t)
	for i := range 12 {
		b.do(true, put(fmt.Sprintf("k%02d", i), "value of it"), put(fmt.Sprintf("m%02d", i), "another value"))
		if i == 8 {
			b.flush()
		}
	}
	b.flush()
	b.do(true, put("k00", "new"))
	f := b.f.Copy()
	laid, _ := f.Get("tab-000001")
	f.Drop("tab-000001")
	for name, s := range map[string]string{"cut": laid[:len(laid)-1], "empty": "", "of a byte more": laid + "x", "of other ones": "whatever it is"} {
		g := f.Copy()
		g.Put("tab-000001", s)
		was := bytesOf(g)
		if e, err := Open(g); e != nil || err != api.ErrSpoilt || bytesOf(g) != was {
			t.Errorf("P15.1: a table %s: %v", name, err)
		}
	}
	if e, err := Open(f); e != nil || err != api.ErrSpoilt {
		t.Errorf("P15.1: a table that isn't there: %v", err)
	}
	opened, bad := 0, 0
	for i := range laid {
		g := f.Copy()
		g.Put("tab-000001", laid[:i]+string([]byte{laid[i] ^ 1})+laid[i+1:])
		e, err := Open(g)
		if err == api.ErrSpoilt && e == nil {
			continue
		} else if err != api.OK {
			t.Errorf("P15.1: byte %d: %v", i, err)
			continue
		}
		opened++
		bad += spoilt(t, g, e, b.batches)
	}
	if opened == 0 || bad < opened {
		t.Errorf("P15.3: %d could be opened, %d errors were told", opened, bad)
	}
}

// spoilt holds what an engine tells of a table with a spoilt block: nothing that isn't right; how many Gets err.
func spoilt(t *testing.T, f *shelf.Shelf, e *Engine, batches [][]api.Write) int {
	t.Helper()
	bad := 0
	for _, key := range keysOf(batches) {
		want, is := valueOf(batches, key, 1<<40)
		got, ok, err := e.Get(key, 1<<40)
		switch {
		case err == api.ErrSpoilt && got == "" && !ok:
			bad++
		case err != api.OK || got != want || ok != is:
			t.Errorf("P15.3: %q: %q, %v, %v", key, got, ok, err)
		}
		want2 := between(pairsOf(batches, 1<<40), key, key+"\x00")
		if l, err := e.Scan(key, key+"\x00", 1<<40); err == api.ErrSpoilt && len(l) > 0 || err == api.OK && !slices.Equal(l, want2) || err != api.OK && err != api.ErrSpoilt {
			t.Errorf("P15.3: from %q: %v, %v", key, l, err)
		}
	}
	if l, err := e.Scan("", "", 1<<40); err != api.ErrSpoilt || len(l) != 0 {
		t.Errorf("P15.3: of all: %v, %v", l, err)
	}
	f.Keep()
	was, bytes := told(e), bytesOf(f)
	if err := e.Merge(); err != api.ErrSpoilt || told(e) != was || bytesOf(f) != bytes {
		t.Errorf("P15.4: %v", err)
	}
	if err := e.Flush(); err != api.OK {
		t.Errorf("P15.4: %v", err)
	}
	return bad
}

func TestNewest(t *testing.T) { // P15.3: the newest, wherever it lies, up to Seq at most
	in := [][]api.Entry{{{Key: "a", Seq: 4, Value: "4"}, {Key: "b", Seq: 1}}, {{Key: "a", Seq: 9, Value: "9"}, {Key: "a", Seq: 2, Value: "2"}, {Key: "c", Seq: 9}}, {{Key: "a", Seq: 3, Value: "3"}}}
	e, err := Open(sheetOf(t, api.Edit{Come: []api.Table{{ID: 1, Tier: 1}, {ID: 2}, {ID: 3}}, Log: 1, Seq: 5}, in...))
	if err != api.OK {
		t.Fatalf("P15.1: %v", err)
	}
	for seq, want := range []string{"", "b=", "a=2 b=", "a=3 b=", "a=4 b=", "a=4 b=", "a=4 b=", "a=4 b=", "a=4 b=", "a=4 b="} {
		var got []string
		l, err := e.Scan("", "", seq)
		for _, p := range l {
			got = append(got, p.Key+"="+p.Value)
			if v, ok, err := e.Get(p.Key, seq); v != p.Value || !ok || err != api.OK {
				t.Errorf("P15.3: up to %d: %q: %q, %v, %v", seq, p.Key, v, ok, err)
			}
		}
		if strings.Join(got, " ") != want || err != api.OK {
			t.Errorf("P15.3: up to %d: %v, %v, not %s", seq, got, err, want)
		}
		if v, ok, err := e.Get("c", seq); v != "" || ok || err != api.OK { // it is above Seq
			t.Errorf("P15.3: up to %d: %q, %v, %v", seq, v, ok, err)
		}
	}
}

// disorder tells a table of blocks that are whole, and aren't in order.
func disorder(t *testing.T) string {
	t.Helper()
	var l []api.Entry
	for seq := 20; seq > 0; seq-- { // of one Key, so that no block's ends tell which one is the first
		l = append(l, api.Entry{Key: "a", Seq: seq, Value: strings.Repeat("v", 24)})
	}
	laid, _ := table.Make(l)
	for size := 1; 2*size < len(laid); size++ {
		s := laid[size:2*size] + laid[:size] + laid[2*size:]
		if opened, err := table.Open(s); err == api.OK {
			if got, err := opened.All(); err == api.OK && !entry.Sorted(got) {
				return s
			}
		}
	}
	t.Fatal("no two blocks of one size")
	return ""
}

func TestDisorder(t *testing.T) { // P15.3, P15.4: ErrSpoilt, whatever it is that isn't as it was written
	f := sheetOf(t, api.Edit{Come: []api.Table{{ID: 1}, {ID: 2}}, Log: 1, Seq: 30}, []api.Entry{{Key: "a", Seq: 1, Value: "1"}}, []api.Entry{{Key: "b", Seq: 2}})
	f.Drop("tab-000001")
	f.Put("tab-000001", disorder(t))
	e, err := Open(f)
	if err != api.OK {
		t.Fatalf("P15.1: %v", err)
	}
	if l, err := e.Scan("", "", 99); err != api.ErrSpoilt || len(l) != 0 {
		t.Errorf("P15.3: %v, %v", l, err)
	}
	if err := e.Merge(); err != api.ErrSpoilt {
		t.Errorf("P15.4: %v", err)
	}
}
