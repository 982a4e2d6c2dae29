package engine

import (
	"fmt"
	"math/rand"
	"slices"
	"strings"
	"testing"

	"ravelin/api"
	"ravelin/batch"
	"ravelin/shelf"
)

func TestDo(t *testing.T) { // P15.2
	b := lay(t)
	if b.e.Seq() != 0 || b.e.Heap() != 0 || len(b.e.Tables()) != 0 {
		t.Errorf("P15.1: %s", told(b.e))
	}
	b.check()
	b.do(true, put("b", "1"))
	b.do(false, put("b", "2"), put("a", "0"), del("c"), put("b", "3")) // of each key the last one
	b.do(true)                                                         // none
	b.do(false, del("a"), put("a", "5"), put("a", ""))
	b.do(false, del("zz"))
	b.do(true, put(strings.Repeat("\xff", 13), strings.Repeat("v", 24)), put("\x00", ""))
	var l []api.Write
	for i := range 100 { // Neat of these has as many as go into a batch
		l = append(l, put(fmt.Sprint("k", i%8), fmt.Sprint(i)))
	}
	b.do(true, l...)
	b.check()
	if b.e.Heap() != 1+3+1+1+2+8 {
		t.Errorf("P15.4: %d in memory", b.e.Heap())
	}
	laid, _ := b.f.Get("log-000001")
	entries, last, took := batch.Log(laid)
	if len(entries) != b.e.Heap() || last != 7 || took != len(laid) {
		t.Errorf("P15.2: in the log: %v, %d, %d of %d", entries, last, took, len(laid))
	}
	was, bytes := told(b.e), bytesOf(b.f)
	for name, c := range map[string][]api.Write{
		"no key":               {put("", "x")},
		"a key too long":       {put(strings.Repeat("k", 14), "x")},
		"a value too long":     {put("k", strings.Repeat("v", 25))},
		"a value of a Del":     {{Key: "k", Del: true, Value: "v"}},
		"one of many":          {put("a", ""), put("b", ""), put("", "")},
		"nine keys":            {put("a", ""), put("b", ""), put("c", ""), put("d", ""), put("e", ""), put("f", ""), put("g", ""), put("h", ""), del("i")},
		"an ill-formed Del":    {del("")},
		"the last one of many": {put("a", ""), {Key: "a", Del: true, Value: "v"}},
	} {
		for _, keep := range []bool{false, true} {
			if n, err := b.e.Do(c, keep); n != 0 || err != api.ErrForm || told(b.e) != was || bytesOf(b.f) != bytes {
				t.Errorf("P15.2: %s: %d, %v, %s", name, n, err, told(b.e))
			}
		}
	}
	b.do(true, api.Write{Key: "a", Del: true, Value: "v"}, put("a", "w")) // of one key the last one alone is asked
	b.check()
}

func TestKeep(t *testing.T) { // P15.2
	b := lay(t)
	b.do(false, put("a", "1"))
	loose := b.f.Loose()
	b.do(false)
	if loose == 0 || b.f.Loose() != loose+1 {
		t.Errorf("P15.2: %d, then %d", loose, b.f.Loose())
	}
	b.e.Keep()
	b.keep()
	b.do(false, put("a", "2"))
	if b.f.Loose() != 1 {
		t.Errorf("P15.2: %d", b.f.Loose())
	}
	b.do(true)
	b.f.Crash(0, 0)
	b.open()
	b.check()
}

func TestSeqs(t *testing.T) { // P15.3
	b := lay(t)
	b.do(true, put("a", "1"), put("b", "1"))
	b.do(true, put("a", "2"))
	b.do(true, del("a"), put("c", "3"))
	b.do(true, put("a", "4"))
	seen(t, b.e, b.batches, -1<<62, -1, 0, 1, 2, 3, 4, 5, 1<<62) // all in memory: nothing is left out yet
	b.flush()
	seen(t, b.e, b.batches, -1<<62, -1, 0, 1, 2, 3, 4, 5, 1<<62)
	b.do(true, del("b"), put("d", ""))
	seen(t, b.e, b.batches, 1, 2, 3, 4, 5, 6)
}

func TestScan(t *testing.T) { // P15.3: the first MaxScan
	b := lay(t)
	for i := range 20 {
		var l []api.Write
		for j := range 8 {
			l = append(l, put(fmt.Sprintf("k%03d", i+20*j), fmt.Sprint(i)))
		}
		b.do(true, l...)
		if i%7 == 3 {
			b.flush()
		}
		if i == 11 {
			b.merge()
		}
		b.do(true, del(fmt.Sprintf("k%03d", i)))
	}
	b.check()
	for _, c := range []struct {
		from, to string
		want     int
	}{
		{"", "", 64}, {"k020", "", 64}, {"k020", "k084", 64}, {"k020", "k083", 63}, {"k020", "k085", 64}, {"k096", "", 64}, {"k097", "", 63}, {"k159", "", 1}, {"k160", "", 0}, {"", "k020", 0},
	} {
		if l, err := b.e.Scan(c.from, c.to, 99); len(l) != c.want || err != api.OK {
			t.Errorf("P15.3: %q to %q: %d, not %d: %v", c.from, c.to, len(l), c.want, err)
		}
	}
}

func TestHold(t *testing.T) { // P15.3: as often as it was held
	b := lay(t)
	b.do(true, put("a", "1"))
	merged := func() string {
		b.do(true, put("a", fmt.Sprint(b.e.Seq())))
		b.flush()
		b.do(true, put("b", "x"))
		b.flush()
		b.merge()
		var s []string
		for _, x := range tableOf(t, b.f, b.e.Tables()[0]) {
			if x.Key == "a" {
				s = append(s, fmt.Sprint(x.Seq))
			}
		}
		return strings.Join(s, " ")
	}
	steps := []struct {
		name string
		act  func()
		want string
	}{
		{"held twice", func() { b.hold(); b.hold() }, "2 1"},
		{"freed once", func() { b.free(0) }, "4 1"},
		{"freed twice", func() { b.free(0) }, "6"},
		{"freed once more", func() { b.e.Free(1) }, "8"},
		{"held again", func() { b.hold() }, "10 8"},
		{"another one too", func() { b.hold() }, "12 10 8"},
		{"the first one freed", func() { b.free(0) }, "14 10"},
		{"none that was held is freed", func() { b.e.Free(-5); b.e.Free(0); b.e.Free(12); b.e.Free(1 << 62) }, "16 10"},
		{"ones below all and above all", func() { b.e.Hold(0); b.e.Hold(-7); b.e.Hold(1 << 62); b.held = append(b.held, 0, -7, 1<<62) }, "18 10"},
	}
	for _, s := range steps {
		s.act()
		if got := merged(); got != s.want {
			t.Errorf("P15.3: %s: %s, not %s", s.name, got, s.want)
		}
		b.check()
	}
	b.e.Hold(22) // a number that is still to come
	b.held = append(b.held, 22)
	for _, want := range []string{"20 10", "22 10", "24 22 10", "26 22 10"} {
		if got := merged(); got != want {
			t.Errorf("P15.3: 22 is held: %s, not %s", got, want)
		}
		b.check()
	}
}

func TestShortScripts(t *testing.T) { // P15.2 to P15.6
	acts := []func(b *bed){
		func(b *bed) { b.do(false, put("a", fmt.Sprint(len(b.batches))), put("b", "x")) },
		func(b *bed) { b.do(true, del("a"), put("c", fmt.Sprint(len(b.batches)))) },
		func(b *bed) { b.do(false, del("b"), del("c")) },
		func(b *bed) { b.flush() },
		func(b *bed) { b.merge() },
		func(b *bed) { b.hold() },
		func(b *bed) { b.open() },
	}
	const most = 5
	total := 1
	for range most {
		total *= len(acts)
	}
	for script := range total {
		b := lay(t)
		for range most {
			acts[script%len(acts)](b)
			script /= len(acts)
		}
		b.merge()
		b.check()
		if t.Failed() {
			t.Fatalf("script %d", script)
		}
	}
}

func TestLongScripts(t *testing.T) { // P15.2 to P15.6
	r := rand.New(rand.NewSource(1))
	for round := range 60 {
		b := lay(t)
		b.f.Put("x-other", "a file of somebody else")
		keys := []int{3, 10, 60, 300}[round%4]
		for range 80 {
			b.step(r, keys)
			if r.Intn(10) == 0 {
				b.check()
			}
			if t.Failed() {
				t.Fatalf("round %d", round)
			}
		}
		b.check()
		held := b.held
		b.open() // what was held is no more, but nothing was left out since
		seen(t, b.e, b.batches, append(held, len(b.batches))...)
		if s, _ := b.f.Get("x-other"); s != "a file of somebody else" {
			t.Errorf("P15.1: %q", s)
		}
	}
}

func TestSameCalls(t *testing.T) { // the same calls leave the same bytes
	for seed := range int64(20) {
		var states [2][]string
		for i := range states {
			r, b := rand.New(rand.NewSource(seed)), lay(t)
			for range 60 {
				b.step(r, 20)
				states[i] = append(states[i], bytesOf(b.f)+told(b.e))
			}
		}
		if !slices.Equal(states[0], states[1]) {
			t.Errorf("seed %d: other bytes", seed)
		}
	}
}

func TestFlushesAndMergesChangeNothing(t *testing.T) { // P15.4
	for seed := range int64(30) {
		r, b, plain := rand.New(rand.NewSource(seed)), lay(t), lay(t)
		for range 60 {
			var l []api.Write
			for range r.Intn(4) {
				l = append(l, api.Write{Key: fmt.Sprint(r.Intn(20)), Del: r.Intn(2) == 0})
			}
			b.do(false, l...)
			plain.do(false, l...)
			if r.Intn(8) == 0 {
				b.hold()
			}
			switch r.Intn(5) {
			case 0:
				b.flush()
			case 1:
				b.merge()
			}
			for _, seq := range append([]int{b.e.Seq()}, b.held...) {
				got, _ := b.e.Scan("", "", seq)
				if want, _ := plain.e.Scan("", "", seq); !slices.Equal(got, want) {
					t.Fatalf("P15.4: seed %d: up to %d: %v, not %v", seed, seq, got, want)
				}
			}
		}
	}
}

func TestRoomOfADo(t *testing.T) { // P15.2
	l := []api.Write{put("b", "22222"), del("c")}
	laid, _ := batch.Bytes(2, l)
	for room := range len(laid) + 3 {
		b := lay(t)
		b.do(true, put("a", "1"))
		b.f.Room(b.f.Used() + room)
		was, bytes := told(b.e), bytesOf(b.f)
		n, err := b.e.Do(l, true)
		if room < len(laid) {
			if n != 0 || err != api.ErrFull || told(b.e) != was || bytesOf(b.f) != bytes {
				t.Errorf("P15.2: %d bytes left: %d, %v", room, n, err)
			}
			b.check()
			continue
		}
		if n != 2 || err != api.OK {
			t.Errorf("P15.2: %d bytes left: %d, %v", room, n, err)
		}
		if _, err := b.e.Do([]api.Write{put("", "")}, true); err != api.ErrForm { // ahead of ErrFull
			t.Errorf("P15.2: %v", err)
		}
	}
	b := lay(t)
	for i := 0; b.f.Put(fmt.Sprint("x", i), "") == api.OK; i++ { // as many files as there may be: a batch needs none
	}
	b.do(true, l...)
	b.check()
}

func TestEnds(t *testing.T) { // P15.2, P15.4: numbers that come to their end
	e, err := Open(sheetOf(t, api.Edit{Log: 1, Seq: api.MaxSeq - 1}))
	if err != api.OK || e.Seq() != api.MaxSeq-1 {
		t.Fatalf("P15.1: %v", err)
	}
	if n, err := e.Do([]api.Write{put("a", "1")}, true); n != api.MaxSeq || err != api.OK {
		t.Errorf("P15.2: %d, %v", n, err)
	}
	was := bytesOf(e.shelf)
	if n, err := e.Do([]api.Write{put("a", "2")}, true); n != 0 || err != api.ErrMany || bytesOf(e.shelf) != was {
		t.Errorf("P15.2: %d, %v", n, err)
	}
	if n, err := e.Do([]api.Write{put("", "2")}, true); n != 0 || err != api.ErrForm { // ahead of ErrMany
		t.Errorf("P15.2: %d, %v", n, err)
	}
	e.shelf.Room(0)
	if n, err := e.Do(nil, true); n != 0 || err != api.ErrMany { // ahead of ErrFull
		t.Errorf("P15.2: %d, %v", n, err)
	}
	e.shelf.Room(api.MaxRoom)
	if v, ok, err := e.Get("a", 1<<40); v != "1" || !ok || err != api.OK || e.Flush() != api.OK {
		t.Errorf("P15.3: %q, %v, %v", v, ok, err)
	}
	tidy(t, e.shelf, e)
	again, err := Open(e.shelf)
	if v, ok, _ := again.Get("a", 1<<40); err != api.OK || v != "1" || !ok || again.Seq() != api.MaxSeq {
		t.Errorf("P15.1: %v, %q, %v", err, v, ok)
	}

	last := sheetOf(t, api.Edit{Come: []api.Table{{ID: 999999}, {ID: 1000000}}, Log: 1, Seq: 2}, []api.Entry{{Key: "a", Seq: 1}}, []api.Entry{{Key: "a", Seq: 2}})
	logs := sheetOf(t, api.Edit{Log: 1000000, Seq: 2})
	for name, f := range map[string]*shelf.Shelf{"IDs": last, "logs": logs} {
		e, err := Open(f)
		if err != api.OK {
			t.Fatalf("P15.1: %s: %v", name, err)
		}
		tidy(t, f, e)
		e.Do([]api.Write{put("b", "3")}, true)
		was := bytesOf(f)
		if e.Flush() != api.ErrMany || bytesOf(f) != was || e.Heap() != 1 {
			t.Errorf("P15.4: %s at their end", name)
		}
		if want := map[string]api.Errno{"IDs": api.ErrMany, "logs": api.ErrNone}[name]; e.Merge() != want || bytesOf(f) != was {
			t.Errorf("P15.4: %s at their end", name)
		}
		if again, err := Open(f); err != api.OK || told(again) != told(e) {
			t.Errorf("P15.1: %s: %v", name, err)
		}
	}
}

func TestOwnMemory(t *testing.T) { // nothing that is handed in is changed or kept; what is answered is new
	b := lay(t)
	spare := []api.Write{put("b", "1"), del("a"), put("b", "2"), put("spare", "x"), put("more", "y")}
	l := spare[:3]
	was := slices.Clone(spare)
	b.e.Do(l, true)
	if !slices.Equal(spare, was) {
		t.Errorf("%v, not %v", spare, was)
	}
	clear(spare)
	b.batches = [][]api.Write{was[:3]}
	b.check()
	b.flush()
	b.check()
	pairs, _ := b.e.Scan("", "", 9)
	tables := b.e.Tables()
	clear(pairs[:cap(pairs)])
	clear(tables[:cap(tables)])
	b.check()
}

func TestEngineOfNothing(t *testing.T) { // each call ends
	e := &Engine{}
	if n, err := e.Do([]api.Write{put("a", "1")}, true); n != 0 || err != api.ErrFull {
		t.Errorf("%d, %v", n, err)
	}
	e.Keep()
	e.Free(1)
	e.Hold(1)
	e.Free(1)
	if v, ok, err := e.Get("a", 1); v != "" || ok || err != api.OK {
		t.Errorf("%q, %v, %v", v, ok, err)
	}
	if l, err := e.Scan("", "", 1); len(l) != 0 || err != api.OK || e.Flush() != api.ErrNone || e.Merge() != api.ErrNone {
		t.Errorf("%v, %v", l, err)
	}
	if told(e) != "0 0 []" {
		t.Error(told(e))
	}
}

func TestExample(t *testing.T) { // Do, Flush, Get: the same
	b := lay(t)
	b.do(true, put("a", "1"))
	b.flush()
	if v, ok, err := b.e.Get("a", b.e.Seq()); v != "1" || !ok || err != api.OK {
		t.Errorf("%q, %v, %v", v, ok, err)
	}
}
