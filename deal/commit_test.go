package deal

import (
	"fmt"
	"math/rand"
	"strings"
	"testing"

	"ravelin/api"
	"ravelin/engine"
)

func TestClash(t *testing.T) { // P17.3: whether a Read would tell something else, not whether somebody wrote
	get := func(space byte, key string) func(w *twin) { return func(w *twin) { w.get(space, key) } }
	scan := func(space byte, from, to string) func(w *twin) { return func(w *twin) { w.scan(space, from, to) } }
	for name, c := range map[string]struct {
		read  func(w *twin)
		since [][]api.Write
		want  api.Errno
	}{
		"nothing was done":             {get('a', "k"), nil, 0},
		"nothing was read":             {func(w *twin) {}, [][]api.Write{{put("ak", "2"), put("bk", "2")}}, 0},
		"another value":                {get('a', "k"), [][]api.Write{{put("ak", "2")}}, api.ErrClash},
		"no value":                     {get('a', "k"), [][]api.Write{{put("ak", "")}}, api.ErrClash},
		"the same value":               {get('a', "k"), [][]api.Write{{put("ak", "1")}}, 0},
		"gone":                         {get('a', "k"), [][]api.Write{{del("ak")}}, api.ErrClash},
		"gone and back":                {get('a', "k"), [][]api.Write{{del("ak")}, {put("ak", "1")}}, 0},
		"another key":                  {get('a', "k"), [][]api.Write{{put("aj", "2"), put("ak\x00", "2"), put("bk", "2")}}, 0},
		"none, and one came":           {get('a', "z"), [][]api.Write{{put("az", "")}}, api.ErrClash},
		"none, and one was none":       {get('a', "z"), [][]api.Write{{del("az")}}, 0},
		"of home":                      {get('b', "k"), [][]api.Write{{put("bk", "2")}}, api.ErrClash},
		"what Writes told":             {func(w *twin) { w.write(put("k", "")); w.get('b', "k") }, [][]api.Write{{put("bk", "2")}}, 0},
		"read ahead of Writes":         {func(w *twin) { w.get('b', "k"); w.write(put("k", "")) }, [][]api.Write{{put("bk", "2")}}, api.ErrClash},
		"written and not read":         {func(w *twin) { w.write(put("k", "")) }, [][]api.Write{{put("bk", "2")}}, 0},
		"a Scan behind Writes":         {func(w *twin) { w.write(del("k")); w.scan('b', "", "") }, [][]api.Write{{put("bk", "2")}}, api.ErrClash},
		"a Get that erred":             {get('a', ""), [][]api.Write{{put("a", "2")}}, 0},
		"one came into a Scan":         {scan('a', "", ""), [][]api.Write{{put("aa", "")}}, api.ErrClash},
		"one came behind it":           {scan('a', "", "l"), [][]api.Write{{put("al", "2")}}, 0},
		"one came at its end":          {scan('a', "", "l"), [][]api.Write{{put("akz", "2")}}, api.ErrClash},
		"one came ahead of it":         {scan('a', "l", ""), [][]api.Write{{put("ak", "2")}}, 0},
		"one came at its beginning":    {scan('a', "l", ""), [][]api.Write{{put("al", "2")}}, api.ErrClash},
		"one went out of a Scan":       {scan('a', "", ""), [][]api.Write{{del("ak")}}, api.ErrClash},
		"one has another value":        {scan('a', "", ""), [][]api.Write{{put("ak", "2")}}, api.ErrClash},
		"one has the same":             {scan('a', "", ""), [][]api.Write{{put("ak", "1")}}, 0},
		"a Scan of another space":      {scan('b', "", ""), [][]api.Write{{put("ak", "2"), put("ck", "2")}}, 0},
		"the space alone":              {scan('a', "", ""), [][]api.Write{{put("a", "2"), put("b", "2")}}, 0},
		"the last space":               {scan(255, "", ""), [][]api.Write{{put("\xff\xff\xff", "2")}}, api.ErrClash},
		"all of the last space":        {scan(255, "", ""), [][]api.Write{{put("\xfe\xff\xff", "2"), put("\xff", "2")}}, 0},
		"the first one of two":         {func(w *twin) { w.get('a', "k"); w.get('b', "k") }, [][]api.Write{{put("ak", "2")}}, api.ErrClash},
		"the last one of two":          {func(w *twin) { w.get('a', "k"); w.get('b', "k") }, [][]api.Write{{put("bk", "2")}}, api.ErrClash},
		"two that clash, and one back": {func(w *twin) { w.get('a', "k"); w.get('b', "k") }, [][]api.Write{{put("ak", "2"), put("bk", "2")}, {put("ak", "1")}}, api.ErrClash},
	} {
		for _, writes := range []bool{false, true} {
			for _, flushes := range []bool{false, true} {
				b := lay(t)
				b.do(put("ak", "1"), put("bk", "1"))
				w, other := b.deal('b'), b.deal('b')
				c.read(w)
				if writes {
					w.write(put("own", "v"))
				}
				for _, l := range c.since {
					b.do(l...)
					if flushes {
						b.e.Flush()
					}
				}
				b.e.Merge()
				if got := w.d.Ready(); got != c.want {
					t.Errorf("P17.3: %s: %v", name, got)
				}
				w.commit()
				other.get('b', "own")
				other.commit()
				checkOver(t, w.d)
			}
		}
	}
}

func TestClashOfMany(t *testing.T) { // P17.3: of what is behind the first MaxScan nothing was told
	for _, c := range []struct {
		since api.Write
		want  api.Errno
	}{{put("ak064", "2"), 0}, {del("ak064"), 0}, {put("ak0635", "2"), 0}, {put("ak063", "2"), api.ErrClash}, {del("ak000"), api.ErrClash}, {put("ak", ""), api.ErrClash}} {
		b := lay(t)
		for i := range 70 {
			b.do(put(fmt.Sprintf("ak%03d", i), "v"))
		}
		w := b.deal('a')
		w.write(del("k001"))
		w.scan('a', "", "")
		b.do(c.since)
		if got := w.d.Ready(); got != c.want {
			t.Errorf("P17.3: %v: %v", c.since, got)
		}
		w.commit()
	}
}

func TestReady(t *testing.T) { // P17.3: it may be asked again, and each time of what is now
	b := lay(t)
	b.do(put("ak", "1"))
	w := b.deal('b')
	w.get('a', "k")
	w.write(put("k", "own"))
	for i, want := range []api.Errno{0, api.ErrClash, api.ErrClash, 0, 0} {
		was := b.told()
		for range 2 {
			if got := w.d.Ready(); got != want {
				t.Errorf("P17.3: %d: %v", i, got)
			}
		}
		if b.told() != was {
			t.Errorf("P17.3: %s, not %s", b.told(), was)
		}
		b.do([]api.Write{put("ak", "2"), put("ak", "3"), put("ak", "1"), put("c", ""), put("ak", "4")}[i])
	}
	if got := w.d.Ready(); got != api.ErrClash {
		t.Errorf("P17.3: %v", got)
	}
	b.do(put("ak", "1"))
	w.commit()
}

func TestReadySpoilt(t *testing.T) { // P17.3: ErrClash ahead of ErrSpoilt, whichever is met first
	spoilt, other := api.Read{Level: 'a', From: "k"}, api.Read{Level: 'a', From: "a"} // of a there is 1
	whole := api.Read{Level: 'a', Scan: true, Pairs: []api.Pair{{Key: "a", Value: "1"}}}
	same := api.Read{Level: 'a', From: "a", Pairs: []api.Pair{{Key: "a", Value: "1"}}}
	for i, c := range []struct {
		reads []api.Read
		want  api.Errno
	}{
		{[]api.Read{same}, 0},
		{[]api.Read{spoilt}, api.ErrSpoilt},
		{[]api.Read{whole}, api.ErrSpoilt},
		{[]api.Read{same, spoilt, same}, api.ErrSpoilt},
		{[]api.Read{other}, api.ErrClash},
		{[]api.Read{spoilt, other}, api.ErrClash},
		{[]api.Read{other, spoilt}, api.ErrClash},
		{[]api.Read{whole, same, spoilt, same, other, same, spoilt}, api.ErrClash},
	} {
		e := crafted(t)
		d := Open(e, 'a')
		d.reads = c.reads // a block that a deal could read is read again: only so one of its Reads is of a spoilt one
		d.Put("own", "v")
		if err := d.Ready(); err != c.want {
			t.Errorf("P17.3: row %d: %v", i, err)
		}
		n, err := d.Commit()
		if err != c.want || (err == api.OK) != (n == 4) || (err == api.OK) != (e.Seq() == 4) {
			t.Errorf("P17.3: row %d: %d, %v, Seq %d", i, n, err, e.Seq())
		}
		checkOver(t, d)
	}
}

func TestCommit(t *testing.T) { // P17.3: its number; 0 without Writes; kept
	b := lay(t)
	for i := range 3 {
		w := b.deal('b')
		w.get('a', "k")
		w.write(put("k", fmt.Sprint(i)))
		w.write(del("l"))
		w.commit()
		checkOver(t, w.d)
		none := b.deal('b')
		none.get('b', "k")
		none.commit()
		checkOver(t, none.d)
		if b.seq != i+1 {
			t.Fatalf("P17.3: %d", b.seq)
		}
		b.f.Crash(0, 0)
		b.open()
		b.check()
	}
}

func TestAbort(t *testing.T) { // P17.3
	b := lay(t)
	b.do(put("ak", "1"))
	w := b.deal('a')
	w.get('a', "k")
	w.scan('a', "", "")
	w.write(put("k", "2"))
	was := b.told()
	w.abort()
	checkOver(t, w.d)
	w.check()
	if b.told() != was {
		t.Errorf("P17.4: %s, not %s", b.told(), was)
	}
	b.check()
}

func TestNothingOfIt(t *testing.T) { // each call ends
	d := &Deal{}
	checkOver(t, d)
	if len(d.Reads()) != 0 || len(d.Writes()) != 0 {
		t.Errorf("P17.2: %v, %v", d.Reads(), d.Writes())
	}
	d = Open(&engine.Engine{}, 'a')
	if v, ok, err := d.Get('a', "k"); v != "" || ok || err != api.OK {
		t.Errorf("P17.1: %q, %v, %v", v, ok, err)
	}
	d.Put("k", "v")
	if n, err := d.Commit(); n != 0 || err != api.ErrFull {
		t.Errorf("P17.3: %d, %v", n, err)
	}
	checkOver(t, d)
}

func TestHeld(t *testing.T) { // P17.1, P17.3: what a deal sees is held up to when it is over, and no longer
	for name, end := range map[string]func(b *bed, w *twin){
		"aborted":             func(b *bed, w *twin) { w.abort() },
		"aborted twice":       func(b *bed, w *twin) { w.abort(); w.abort() },
		"committed":           func(b *bed, w *twin) { w.commit() },
		"committed, aborted":  func(b *bed, w *twin) { w.commit(); w.abort(); w.commit() },
		"committed of Writes": func(b *bed, w *twin) { w.write(put("k", "4")); w.commit() },
		"refused":             func(b *bed, w *twin) { w.get('a', "k"); w.write(put("k", "4")); w.commit() },
		"asked, and aborted":  func(b *bed, w *twin) { w.get('a', "k"); w.d.Ready(); w.d.Ready(); w.abort() },
		"without room": func(b *bed, w *twin) {
			w.write(put("k", "4"))
			b.f.Room(0)
			if n, err := w.d.Commit(); n != 0 || err != api.ErrFull {
				b.t.Errorf("P17.3: %d, %v", n, err)
			}
			b.f.Room(api.MaxRoom)
		},
	} {
		b := lay(t)
		b.table(put("ak", "1"))
		w, other := b.deal('a'), b.deal('a')
		b.table(put("ak", "2"))
		b.table(put("ak", "3"))
		if got := b.stored(); got != 3 { // k up to 1, k now and zz
			t.Errorf("P17.1: %s: %d entries are held", name, got)
		}
		end(b, w)
		if got := b.stored(); got != 3 { // by the other one
			t.Errorf("P17.3: %s: %d entries are held", name, got)
		}
		other.get('a', "k")
		other.abort()
		if got := b.stored(); got != 2 {
			t.Errorf("P17.3: %s: %d entries are left", name, got)
		}
	}
}

func TestRooms(t *testing.T) { // P17.3, P17.4: with any room all of it, or ErrFull and nothing
	size := 0
	for room := 0; ; room++ {
		b := lay(t)
		b.do(put("bk", "1"), put("bl", "1"))
		used := b.f.Used()
		w := b.deal('b')
		w.write(put("k", "2"))
		w.write(del("l"))
		w.write(put("m", "2"))
		was := b.told()
		b.f.Room(used + room)
		n, err := w.d.Commit()
		checkOver(t, w.d)
		if err == api.ErrFull && n == 0 {
			if b.told() != was {
				t.Errorf("P17.4: room %d: %s, not %s", room, b.told(), was)
			}
			b.check()
			b.f.Crash(0, 0)
			b.open()
			b.check()
			continue
		}
		b.did(w.batch())
		if size = b.f.Used() - used; err != api.OK || n != 2 || size != room {
			t.Fatalf("P17.3: room %d: %d, %v, %d bytes", room, n, err, size)
		}
		b.check()
		b.f.Crash(0, 0)
		b.open()
		b.check()
		return
	}
}

func TestMany(t *testing.T) { // P17.3: the engine's errors
	e := opened(t, api.Edit{Log: 1, Seq: api.MaxSeq - 1})
	last, late, none := Open(e, 'a'), Open(e, 'a'), Open(e, 'a')
	last.Put("k", "1")
	late.Put("l", "1")
	if n, err := last.Commit(); n != api.MaxSeq || err != api.OK {
		t.Errorf("P17.3: %d, %v", n, err)
	}
	if n, err := late.Commit(); n != 0 || err != api.ErrMany || e.Seq() != api.MaxSeq {
		t.Errorf("P17.3: %d, %v", n, err)
	}
	if n, err := none.Commit(); n != 0 || err != api.OK {
		t.Errorf("P17.3: %d, %v", n, err)
	}
	if l, err := e.Scan("", "", api.MaxSeq); fmt.Sprint(l) != "[{ak 1}]" || err != api.OK {
		t.Errorf("P17.4: %v, %v", l, err)
	}
	clash := Open(e, 'a')
	clash.reads = []api.Read{{Level: 'a', From: "k"}} // there is one
	clash.Put("k", "2")
	if n, err := clash.Commit(); n != 0 || err != api.ErrClash { // ahead of ErrMany
		t.Errorf("P17.3: %d, %v", n, err)
	}
	for _, d := range []*Deal{last, late, none, clash} {
		checkOver(t, d)
	}
}

func TestShortScripts(t *testing.T) { // P17.1 to P17.4: all scripts of a few acts of two deals
	acts := []func(b *bed, w *twin){
		func(b *bed, w *twin) { w.get('a', "k") },
		func(b *bed, w *twin) { w.scan('a', "", "l") },
		func(b *bed, w *twin) { w.write(put("k", "2")) },
		func(b *bed, w *twin) { w.write(del("k")) },
		func(b *bed, w *twin) { w.commit() },
		func(b *bed, w *twin) { w.abort() },
	}
	const most = 4
	total := 1
	for range most {
		total *= 2 * len(acts)
	}
	for script := range total {
		b := lay(t)
		b.do(put("ak", "1"))
		deals := []*twin{b.deal('a'), b.deal("ab"[script%2])}
		rest := script
		for range most {
			acts[rest/2%len(acts)](b, deals[rest%2])
			rest /= 2 * len(acts)
		}
		for _, w := range deals {
			w.commit()
		}
		if t.Failed() {
			t.Fatalf("script %d", script)
		}
	}
}

// step does one act of a long script, whichever.
func step(r *rand.Rand, b *bed, deals []*twin, keys int) {
	b.t.Helper()
	w := deals[r.Intn(len(deals))]
	key := func() string {
		if r.Intn(30) == 0 {
			return []string{"", strings.Repeat("k", 13), "\x00", "\xff"}[r.Intn(4)]
		}
		return fmt.Sprintf("k%02d", r.Intn(keys))
	}
	space := func() byte { return []byte{'a', 'b', 254, 255}[r.Intn(4)] }
	switch r.Intn(12) {
	case 0, 1:
		w.get(space(), key())
	case 2:
		w.scan(space(), key(), key())
	case 3:
		w.scan(w.home, "", "")
	case 4, 5, 6:
		w.write(put(key(), []string{"", "x", "y"}[r.Intn(3)])) // often what was there
	case 7:
		w.write(del(key()))
	case 8:
		w.commit()
	case 9:
		if r.Intn(3) == 0 {
			w.abort()
		}
	case 10:
		b.e.Flush()
	case 11:
		b.e.Merge()
	}
}

func TestLongScripts(t *testing.T) { // P17.1 to P17.4: several deals at once, over flushes, merges and crashes
	committed := 0
	for seed := range int64(60) {
		r, b := rand.New(rand.NewSource(seed)), lay(t)
		keys := []int{2, 5, 30, 99}[seed%4]
		homes := []byte{'a', 'b', 255}
		deals := []*twin{b.deal('a'), b.deal('b'), b.deal(255), b.deal('a')}
		for range 150 {
			step(r, b, deals, keys)
			for i, w := range deals {
				if w.over && r.Intn(4) == 0 {
					deals[i] = b.deal(homes[r.Intn(3)])
				}
			}
			if r.Intn(40) == 0 { // all that is open is gone, all that was committed is there
				b.f.Crash(0, 0)
				b.open()
				for i := range deals {
					deals[i] = b.deal(homes[r.Intn(3)])
				}
			}
			b.check()
			if t.Failed() {
				t.Fatalf("seed %d", seed)
			}
		}
		committed += b.seq
	}
	if committed < 300 {
		t.Errorf("only %d were committed", committed)
	}
}
