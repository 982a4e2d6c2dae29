package snap

import (
	"fmt"
	"maps"
	"math/rand"
	"slices"
	"strings"
	"testing"

	"ravelin/api"
	"ravelin/engine"
	"ravelin/shelf"
)

func put(key, value string) api.Write { return api.Write{Key: key, Value: value} }

func del(key string) api.Write { return api.Write{Key: key, Del: true} }

// bed is an engine on its shelf, and what it was told.
type bed struct {
	t       *testing.T
	f       *shelf.Shelf
	e       *engine.Engine
	batches [][]api.Write // from Seq 1 on
}

// lay tells an engine of nothing.
func lay(t *testing.T) *bed {
	t.Helper()
	b := &bed{t: t, f: shelf.New(api.MaxRoom)}
	e, err := engine.Open(b.f)
	if err != api.OK {
		t.Fatal(err)
	}
	b.e = e
	return b
}

// do does a batch, which doesn't err.
func (b *bed) do(l ...api.Write) {
	b.t.Helper()
	if _, err := b.e.Do(l, true); err != api.OK {
		b.t.Fatalf("%v: %v", l, err)
	}
	b.batches = append(b.batches, l)
}

// table makes all that is in memory a table.
func (b *bed) table(l ...api.Write) {
	b.t.Helper()
	b.do(l...)
	if err := b.e.Flush(); err != api.OK {
		b.t.Fatal(err)
	}
}

// merge merges.
func (b *bed) merge() {
	b.t.Helper()
	if err := b.e.Merge(); err != api.OK {
		b.t.Fatal(err)
	}
}

// of tells a snap of all that was done.
func (b *bed) of() *Snap {
	b.t.Helper()
	s := Of(b.e)
	if s == nil || s.Seq() != len(b.batches) {
		b.t.Fatalf("P16.1: %v behind %d batches", s, len(b.batches))
	}
	return s
}

// known tells all that the newest batch up to a number says of each key.
func (b *bed) known(seq int) map[string]api.Write {
	known := map[string]api.Write{}
	for _, l := range b.batches[:seq] {
		for _, w := range l {
			known[w.Key] = w
		}
	}
	return known
}

// pairs works out Scan by the words of P15.3.
func (b *bed) pairs(from, to string, seq int) []api.Pair {
	known := b.known(seq)
	var pairs []api.Pair
	for _, key := range slices.Sorted(maps.Keys(known)) {
		within := key >= from && (to == "" || key < to)
		if w := known[key]; within && !w.Del && len(pairs) < 64 {
			pairs = append(pairs, api.Pair{Key: key, Value: w.Value})
		}
	}
	return pairs
}

// keys tells all keys that were ever written, and some that weren't.
func (b *bed) keys() []string {
	keys := []string{"", "\x00", "k", "zz", "\xff", strings.Repeat("k", 20)}
	for key := range b.known(len(b.batches)) {
		keys = append(keys, key, key+"\x00")
	}
	slices.Sort(keys)
	return slices.Compact(keys)
}

// check holds all that a snap tells against the words.
func (b *bed) check(s *Snap, seq int) {
	b.t.Helper()
	if s.Seq() != seq {
		b.t.Errorf("P16.1: Seq %d, not %d", s.Seq(), seq)
	}
	was, now, keys := b.known(seq), b.known(len(b.batches)), b.keys()
	for _, key := range keys {
		w, has := was[key]
		has = has && !w.Del
		if v, ok, err := s.Get(key); v != w.Value || ok != has || err != api.OK {
			b.t.Errorf("P16.1: up to %d of %d: Get(%q): %q, %v, %v, not %q, %v", seq, len(b.batches), key, v, ok, err, w.Value, has)
		}
		n, is := now[key]
		is = is && !n.Del
		if got, err := s.Changed(key); got != (has != is || w.Value != n.Value) || err != api.OK {
			b.t.Errorf("P16.2: %d, %d: Changed(%q): %v, %v", seq, len(b.batches), key, got, err)
		}
	}
	for i := 0; i < len(keys); i += 1 + len(keys)/8 { // of many keys some
		from, to := keys[i], keys[len(keys)-1-i]
		for _, c := range [][2]string{{"", ""}, {from, ""}, {"", to}, {from, to}, {from, from}, {from, from + "\x00"}} {
			b.checkScan(s, c[0], c[1], seq)
		}
	}
}

// checkScan holds a snap's Scan and Moved against the words.
func (b *bed) checkScan(s *Snap, from, to string, seq int) {
	b.t.Helper()
	was, now := b.pairs(from, to, seq), b.pairs(from, to, len(b.batches))
	if l, err := s.Scan(from, to); !slices.Equal(l, was) || err != api.OK {
		b.t.Errorf("P16.1: up to %d of %d: Scan(%q, %q): %v, %v, not %v", seq, len(b.batches), from, to, l, err, was)
	}
	if got, err := s.Moved(from, to); got == slices.Equal(was, now) || err != api.OK {
		b.t.Errorf("P16.2: %d, %d: Moved(%q, %q): %v, %v:\n%v\n%v", seq, len(b.batches), from, to, got, err, was, now)
	}
}

// checkErr holds that all that a snap is asked for is this error, and nothing beside it.
func checkErr(t *testing.T, s *Snap, key string, want api.Errno) {
	t.Helper()
	if v, ok, err := s.Get(key); v != "" || ok || err != want {
		t.Errorf("P16.1: Get(%q): %q, %v, %v, not %v", key, v, ok, err, want)
	}
	if l, err := s.Scan(key, ""); len(l) != 0 || err != want {
		t.Errorf("P16.1: Scan(%q): %v, %v, not %v", key, l, err, want)
	}
	if got, err := s.Changed(key); got || err != want {
		t.Errorf("P16.2: Changed(%q): %v, %v, not %v", key, got, err, want)
	}
	if got, err := s.Moved(key, ""); got || err != want {
		t.Errorf("P16.2: Moved(%q): %v, %v, not %v", key, got, err, want)
	}
}

// stored tells of how many entries the engine's tables are.
func (b *bed) stored() int {
	many := 0
	for _, t := range b.e.Tables() {
		many += t.Count
	}
	return many
}

// state tells all of an engine and its shelf that can be told.
func (b *bed) state() string {
	s := fmt.Sprint(b.e.Seq(), b.e.Heap(), b.e.Tables(), b.f.Loose(), b.f.Used())
	for _, name := range b.f.Names() {
		laid, _ := b.f.Get(name)
		s += fmt.Sprintf(" %s=%q", name, laid)
	}
	return s
}

// step does one act of a long script, whichever.
func (b *bed) step(r *rand.Rand, keys int) {
	key := func() string { return fmt.Sprintf("k%02d", r.Intn(keys)) }
	switch r.Intn(8) {
	case 0, 1:
		b.e.Flush()
	case 2:
		b.e.Merge()
	default:
		var l []api.Write
		for range r.Intn(5) {
			switch r.Intn(3) {
			case 0:
				l = append(l, del(key()))
			default:
				l = append(l, put(key(), []string{"", "x", "y"}[r.Intn(3)])) // often what was there
			}
		}
		b.do(l...)
	}
}
