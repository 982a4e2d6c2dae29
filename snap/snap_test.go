package snap

import (
	"fmt"
	"math/rand"
	"strings"
	"testing"

	"ravelin/api"
	"ravelin/engine"
)

func TestOf(t *testing.T) { // P16.1
	b := lay(t)
	none := b.of()
	b.check(none, 0)
	b.do(put("a", "1"), put("b", ""))
	one, again := b.of(), b.of()
	b.do(put("a", "2"), del("b"), put("c", "2"))
	two := b.of()
	b.do()
	three := b.of() // of a batch of nothing
	b.do(del("a"))
	for i, s := range []*Snap{none, one, two, three} {
		b.check(s, i)
	}
	b.check(again, 1)
	for range 2 {
		b.table(put("d", "x"))
		b.check(one, 1)
	}
	b.merge()
	for i, s := range []*Snap{none, one, two, three} {
		b.check(s, i)
	}
}

func TestHeld(t *testing.T) { // P16.1: the engine's Seq is held, up to Close, as often as there are snaps of it
	b := lay(t)
	b.table(put("a", "1"))
	first, second := b.of(), b.of()
	b.e.Hold(1) // by somebody else
	for _, s := range []struct {
		name string
		act  func()
		want int // entries that are left: the newest one, and the one that is held
	}{
		{"both are open", func() {}, 2},
		{"one is closed", first.Close, 2},
		{"it is closed again", func() { first.Close(); first.Close() }, 2},
		{"both are closed", second.Close, 2},
		{"the other one again too", second.Close, 2},
		{"nobody holds it", func() { b.e.Free(1) }, 1},
	} {
		s.act()
		b.table(put("a", "2"))
		b.table(put("a", "3"))
		b.merge()
		if got := b.stored(); got != s.want {
			t.Errorf("P16.1: %s: %d entries, not %d", s.name, got, s.want)
		}
	}
}

func TestSnapsOfOneNumber(t *testing.T) { // P16.1: closed already: nothing, to another snap of it either
	b := lay(t)
	b.table(put("a", "1"), put("b", "1"))
	closed, open := b.of(), b.of()
	for range 3 {
		closed.Close()
	}
	b.table(put("a", "2"))
	b.table(del("b"))
	b.merge()
	b.check(open, 1)
	checkErr(t, closed, "a", api.ErrNone)
	open.Close()
	b.table(put("c", "3"))
	b.table(put("a", "4"))
	b.merge()
	if got := b.stored(); got != 2 {
		t.Errorf("P16.1: %d entries behind Close, not 2", got)
	}
}

func TestClose(t *testing.T) { // P16.1
	b := lay(t)
	b.do(put("a", "1"), put("b", "1"))
	s, other := b.of(), b.of()
	b.do(put("a", "2"))
	was := b.state()
	for range 3 {
		s.Close()
		for _, key := range []string{"", "a", "b", "z", strings.Repeat("k", 20)} {
			checkErr(t, s, key, api.ErrNone)
		}
		if s.Seq() != 1 {
			t.Errorf("P16.1: Seq %d", s.Seq())
		}
	}
	if b.state() != was {
		t.Errorf("P16.1: Close changed what is stored")
	}
	b.check(other, 1)
	b.check(b.of(), 2)
}

func TestSnapOfNothing(t *testing.T) { // each call ends
	s := &Snap{}
	for range 2 {
		checkErr(t, s, "a", api.ErrNone)
		s.Close()
	}
	s = Of(&engine.Engine{})
	if v, ok, err := s.Get("a"); v != "" || ok || err != api.OK || s.Seq() != 0 {
		t.Errorf("P16.1: %q, %v, %v", v, ok, err)
	}
	if moved, err := s.Moved("", ""); moved || err != api.OK {
		t.Errorf("P16.2: %v", err)
	}
	s.Close()
	checkErr(t, s, "a", api.ErrNone)
}

func TestLooksChangeNothing(t *testing.T) { // P16.1, P16.2
	b := lay(t)
	b.table(put("a", "1"), put("b", "1"))
	b.do(del("a"))
	was := b.state()
	s := b.of()
	b.check(s, 2)
	s.Close()
	if b.state() != was {
		t.Errorf("%s, not %s", b.state(), was)
	}
}

func TestOwnMemory(t *testing.T) { // what is answered is new
	b := lay(t)
	b.table(put("a", "1"), put("b", "1"))
	b.do(put("c", "1"))
	s := b.of()
	first, _ := s.Scan("", "")
	second, _ := s.Scan("", "")
	clear(first[:cap(first)])
	if fmt.Sprint(second) != "[{a 1} {b 1} {c 1}]" {
		t.Errorf("%v", second)
	}
	b.check(s, 2)
}

func TestStays(t *testing.T) { // P16.3, P16.1, P16.2: whatever is done, flushed, merged, closed since
	for seed := range int64(40) {
		r, b := rand.New(rand.NewSource(seed)), lay(t)
		keys := []int{2, 5, 30, 99}[seed%4]
		var snaps []*Snap
		var seqs []int
		for range 60 {
			b.step(r, keys)
			if r.Intn(4) == 0 {
				snaps, seqs = append(snaps, b.of()), append(seqs, len(b.batches))
			}
			if r.Intn(6) == 0 && len(snaps) > 0 {
				i := r.Intn(len(snaps))
				snaps[i].Close()
				checkErr(t, snaps[i], "k00", api.ErrNone)
				snaps, seqs = append(snaps[:i], snaps[i+1:]...), append(seqs[:i], seqs[i+1:]...)
			}
			if r.Intn(8) == 0 {
				for i, s := range snaps {
					b.check(s, seqs[i])
				}
			}
			if t.Failed() {
				t.Fatalf("seed %d", seed)
			}
		}
	}
}

func TestShortScripts(t *testing.T) { // P16.1 to P16.3: all scripts of a few acts, two snaps between them
	acts := []func(b *bed){
		func(b *bed) { b.do(put("a", "1"), put("b", "1")) },
		func(b *bed) { b.do(put("a", "2"), del("b")) },
		func(b *bed) { b.do(del("a"), put("c", "")) },
		func(b *bed) { b.e.Flush() },
		func(b *bed) { b.e.Merge() },
	}
	const most = 5
	total := 1
	for range most {
		total *= len(acts)
	}
	for script := range total {
		b := lay(t)
		var snaps []*Snap
		var seqs []int
		rest := script
		for i := range most {
			acts[rest%len(acts)](b)
			rest /= len(acts)
			if i == 1 || i == 3 {
				snaps, seqs = append(snaps, b.of()), append(seqs, len(b.batches))
			}
		}
		b.e.Merge()
		for i, s := range snaps {
			b.check(s, seqs[i])
		}
		if t.Failed() {
			t.Fatalf("script %d", script)
		}
	}
}

func TestExample(t *testing.T) { // Of, then a Do: Get the same
	b := lay(t)
	b.do(put("a", "1"))
	s := b.of()
	b.do(put("a", "2"))
	if v, ok, err := s.Get("a"); v != "1" || !ok || err != api.OK {
		t.Errorf("%q, %v, %v", v, ok, err)
	}
}
