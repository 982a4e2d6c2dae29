package engine

import (
	"fmt"
	"maps"
	"math/rand"
	"slices"
	"strings"
	"testing"

	"ravelin/api"
	"ravelin/batch"
	"ravelin/entry"
	"ravelin/merge"
	"ravelin/sheet"
	"ravelin/shelf"
	"ravelin/table"
)

func put(key, value string) api.Write { return api.Write{Key: key, Value: value} }

func del(key string) api.Write { return api.Write{Key: key, Del: true} }

// bed is an engine on its shelf, and what it was told.
type bed struct {
	t       *testing.T
	f       *shelf.Shelf
	e       *Engine
	batches [][]api.Write // as they were handed in, from Seq 1 on
	kept    int           // how many of these were kept
	held    []int
}

// lay tells an engine on a new shelf.
func lay(t *testing.T) *bed {
	t.Helper()
	b := &bed{t: t, f: shelf.New(api.MaxRoom)}
	b.open()
	return b
}

// open opens the shelf.
func (b *bed) open() {
	b.t.Helper()
	e, err := Open(b.f)
	if err != api.OK || e == nil {
		b.t.Fatalf("P15.1: %v", err)
	}
	b.e, b.held = e, nil
}

// do does a batch, which doesn't err.
func (b *bed) do(keep bool, l ...api.Write) {
	b.t.Helper()
	n, err := b.e.Do(l, keep)
	b.batches = append(b.batches, l)
	if err != api.OK || n != len(b.batches) {
		b.t.Fatalf("P15.2: %v: %d, %v", l, n, err)
	}
	if keep {
		b.keep()
	}
}

// keep says that all is kept.
func (b *bed) keep() {
	b.t.Helper()
	b.kept = len(b.batches)
	if b.f.Loose() != 0 {
		b.t.Errorf("P15.2: %d are loose", b.f.Loose())
	}
}

// flush flushes, if anything is in memory.
func (b *bed) flush() {
	b.t.Helper()
	had := b.e.Heap()
	switch err := b.e.Flush(); {
	case err == api.OK && had > 0 && b.e.Heap() == 0:
		b.keep()
	case err != api.ErrNone || had > 0:
		b.t.Fatalf("P15.4: of %d: %v, %d in memory", had, err, b.e.Heap())
	}
}

// merge merges, if there is anything to be merged.
func (b *bed) merge() {
	b.t.Helper()
	zero, was := 0, b.e.Tables()
	for _, t := range was {
		if t.Tier == 0 {
			zero++
		}
	}
	var want [][]api.Entry
	if zero > 1 {
		want = mergedOf(b.t, b.f, was, b.held)
	}
	switch err := b.e.Merge(); {
	case err == api.OK && zero > 1:
		b.keep()
		if got := b.rowsOf(was); fmt.Sprint(got) != fmt.Sprint(want) {
			b.t.Errorf("P15.4: %v, held %v:\n%v, not\n%v", was, b.held, got, want)
		}
	case err != api.ErrNone || zero > 1:
		b.t.Fatalf("P15.4: of %v: %v", was, err)
	}
}

// rowsOf tells the entries of all tables that weren't there.
func (b *bed) rowsOf(was []api.Table) [][]api.Entry {
	b.t.Helper()
	var rows [][]api.Entry
	for _, t := range b.e.Tables() {
		if slices.Contains(was, t) {
			continue
		}
		if t.Tier != 1 {
			b.t.Errorf("P15.4: %v behind a merge", t)
		}
		rows = append(rows, tableOf(b.t, b.f, t))
	}
	return rows
}

// hold holds the engine's Seq.
func (b *bed) hold() {
	seq := len(b.batches)
	b.e.Hold(seq)
	b.held = append(b.held, seq)
}

// free frees the i-th of those that are held.
func (b *bed) free(i int) {
	b.e.Free(b.held[i])
	b.held = slices.Delete(b.held, i, i+1)
}

// tableOf tells the entries of a table on the shelf.
func tableOf(t *testing.T, f *shelf.Shelf, a api.Table) []api.Entry {
	t.Helper()
	laid, err := f.Get(fmt.Sprintf("tab-%06d", a.ID))
	if err != api.OK {
		t.Fatalf("the file of %v: %v", a, err)
	}
	opened, err := table.Open(laid)
	if err != api.OK {
		t.Fatalf("%v: %v", a, err)
	}
	l, err := opened.All()
	if first, end := opened.Ends(); err != api.OK || first != a.First || end != a.End || opened.Count() != a.Count || len(l) != a.Count {
		t.Errorf("P15.4: %v: %q to %q, %d: %v", a, first, end, opened.Count(), err)
	}
	return l
}

// mergedOf works out by the words of P15.4 what tables a merge makes.
func mergedOf(t *testing.T, f *shelf.Shelf, l []api.Table, held []int) [][]api.Entry {
	t.Helper()
	first, end := "\xff\xff\xff\xff\xff\xff\xff\xff\xff\xff\xff\xff\xff\xff", ""
	for _, a := range l {
		if a.Tier == 0 {
			first, end = min(first, a.First), max(end, a.End)
		}
	}
	var all []api.Entry
	for _, a := range l {
		if a.Tier == 0 || a.First <= end && first <= a.End {
			all = append(all, tableOf(t, f, a)...)
		}
	}
	slices.SortFunc(all, func(x, y api.Entry) int {
		if entry.Less(x, y) {
			return -1
		}
		return 1
	})
	packed := merge.Pack(all, held, true)
	var keys []string
	byKey := map[string][]api.Entry{}
	for _, x := range packed {
		if !slices.Contains(keys, x.Key) {
			keys = append(keys, x.Key)
		}
		byKey[x.Key] = append(byKey[x.Key], x)
	}
	var rows [][]api.Entry
	for _, key := range keys {
		last := len(rows) - 1
		if last < 0 || len(rows[last])+len(byKey[key]) > 40 {
			rows, last = append(rows, nil), last+1
		}
		rows[last] = append(rows[last], byKey[key]...)
	}
	return rows
}

// valueOf works out Get by the words of P15.3.
func valueOf(batches [][]api.Write, key string, seq int) (string, bool) {
	for i := min(seq, len(batches)); i > 0; i-- {
		for _, w := range slices.Backward(batches[i-1]) {
			if w.Key == key {
				return w.Value, !w.Del
			}
		}
	}
	return "", false
}

// pairsOf works out by the words of P15.3 all that a Scan from "" up to "" would tell, if it told more than MaxScan.
func pairsOf(batches [][]api.Write, seq int) []api.Pair {
	newest := map[string]api.Write{}
	for _, l := range batches[:max(0, min(seq, len(batches)))] {
		for _, w := range l {
			newest[w.Key] = w
		}
	}
	var pairs []api.Pair
	for _, key := range slices.Sorted(maps.Keys(newest)) {
		if w := newest[key]; !w.Del {
			pairs = append(pairs, api.Pair{Key: key, Value: w.Value})
		}
	}
	return pairs
}

// between works out Scan by the words of P15.3, of all pairs.
func between(all []api.Pair, from, to string) []api.Pair {
	var pairs []api.Pair
	for _, p := range all {
		if p.Key >= from && (to == "" || p.Key < to) && len(pairs) < 64 {
			pairs = append(pairs, p)
		}
	}
	return pairs
}

// keysOf tells all keys of batches, and some that aren't there.
func keysOf(batches [][]api.Write) []string {
	keys := []string{"", "\x00", "aa", "zz", "\xff", strings.Repeat("k", 20)}
	for _, l := range batches {
		for _, w := range l {
			keys = append(keys, w.Key)
		}
	}
	slices.Sort(keys)
	return slices.Compact(keys)
}

// seen holds Get and Scan against the words, up to each of these numbers.
func seen(t *testing.T, e *Engine, batches [][]api.Write, seqs ...int) {
	t.Helper()
	keys := keysOf(batches)
	for _, seq := range slices.Compact(slices.Sorted(slices.Values(seqs))) {
		all := pairsOf(batches, seq)
		for _, key := range keys {
			want, is := valueOf(batches, key, seq)
			if got, ok, err := e.Get(key, seq); got != want || ok != is || err != api.OK {
				t.Errorf("P15.3: Get(%q, %d): %q, %v, %v, not %q, %v", key, seq, got, ok, err, want, is)
			}
		}
		for i := 0; i < len(keys); i += 1 + len(keys)/10 { // of many keys some
			from, to := keys[i], keys[len(keys)-1-i]
			for _, c := range [][2]string{{"", ""}, {from, ""}, {"", to}, {from, to}, {from, from}} {
				want := between(all, c[0], c[1])
				if got, err := e.Scan(c[0], c[1], seq); !slices.Equal(got, want) || err != api.OK {
					t.Errorf("P15.3: Scan(%q, %q, %d): %v, %v, not %v", c[0], c[1], seq, got, err, want)
				}
			}
		}
	}
}

// tidy holds what is on the shelf against the words, and that the engine tells just that.
func tidy(t *testing.T, f *shelf.Shelf, e *Engine) {
	t.Helper()
	laid, err := f.Get("sheet")
	told, took, bad := sheet.Read(laid)
	if err != api.OK || bad != api.OK || took != len(laid) || !slices.Equal(told.Tables(), e.Tables()) {
		t.Fatalf("P15.1: the sheet: %v, %v, %d of %d: %v, not %v", err, bad, took, len(laid), told.Tables(), e.Tables())
	}
	want := []string{"sheet"}
	for _, a := range e.Tables() {
		want = append(want, fmt.Sprintf("tab-%06d", a.ID))
		l := tableOf(t, f, a)
		if a.Tier == 1 && a.Count > 40 && l[0].Key != l[len(l)-1].Key {
			t.Errorf("P15.4: %v", a)
		}
		for _, x := range l {
			if x.Seq > told.Seq() {
				t.Errorf("P15.4: %v in a table, the sheet's Seq is %d", x, told.Seq())
			}
		}
	}
	seq, entries := told.Seq(), 0
	for n := told.Log(); ; n++ {
		name := fmt.Sprintf("log-%06d", n)
		laid, err := f.Get(name)
		if err != api.OK {
			break
		}
		want = append(want, name)
		l, last, took := batch.Log(laid)
		if first, _, _, err := batch.Read(laid); err == api.OK && first != seq+1 || took != len(laid) {
			t.Errorf("P15.1: %s begins with %d behind %d, %d of %d bytes", name, first, seq, took, len(laid))
		}
		seq, entries = max(seq, last), entries+len(l)
	}
	slices.Sort(want)
	var got []string
	for _, name := range f.Names() {
		if !strings.HasPrefix(name, "x") { // a file of somebody else
			got = append(got, name)
		}
	}
	if !slices.Equal(got, want) {
		t.Errorf("P15.1: %v, not %v", got, want)
	}
	if seq != e.Seq() || entries != e.Heap() {
		t.Errorf("P15.1: up to %d, %d in logs, not %d, %d", seq, entries, e.Seq(), e.Heap())
	}
}

// check holds all that the engine tells, and its shelf.
func (b *bed) check() {
	b.t.Helper()
	if b.e.Seq() != len(b.batches) {
		b.t.Fatalf("P15.2: Seq %d, not %d", b.e.Seq(), len(b.batches))
	}
	seen(b.t, b.e, b.batches, append([]int{len(b.batches), len(b.batches) + 1, 0, -1}, b.held...)...)
	tidy(b.t, b.f, b.e)
}

// bytesOf tells all of a shelf that can be told.
func bytesOf(f *shelf.Shelf) string {
	s := fmt.Sprint(f.Loose(), f.Used(), f.Left())
	for _, name := range f.Names() {
		laid, _ := f.Get(name)
		s += fmt.Sprintf(" %s=%q", name, laid)
	}
	return s
}

// told tells all that an engine tells of itself.
func told(e *Engine) string { return fmt.Sprint(e.Seq(), e.Heap(), e.Tables()) }

// step does one act of a long script, whichever.
func (b *bed) step(r *rand.Rand, keys int) {
	key := func() string { return fmt.Sprintf("k%d", r.Intn(keys)) }
	switch r.Intn(16) {
	case 0, 1:
		b.flush()
	case 2:
		b.merge()
	case 3:
		b.hold()
	case 4:
		if len(b.held) > 0 {
			b.free(r.Intn(len(b.held)))
		}
	case 5:
		b.e.Keep()
		b.keep()
	case 6:
		if r.Intn(4) == 0 {
			b.open()
		}
	default:
		var l []api.Write
		for range r.Intn(9) {
			if r.Intn(3) == 0 {
				l = append(l, del(key()))
			} else {
				l = append(l, put(key(), fmt.Sprint(r.Intn(1000))))
			}
		}
		b.do(r.Intn(3) == 0, l...)
	}
}

// sheetOf tells a shelf with a sheet of that edit, whose tables have these entries.
func sheetOf(t *testing.T, e api.Edit, rows ...[]api.Entry) *shelf.Shelf {
	t.Helper()
	f := shelf.New(api.MaxRoom)
	for i, l := range rows {
		laid, err := table.Make(l)
		if err != api.OK {
			t.Fatal(err)
		}
		a := &e.Come[i]
		a.First, a.End, a.Count = l[0].Key, l[len(l)-1].Key, len(l)
		f.Put(fmt.Sprintf("tab-%06d", a.ID), laid)
	}
	laid, err := sheet.Bytes(e)
	if err != api.OK {
		t.Fatal(err)
	}
	f.Put("sheet", laid)
	f.Keep()
	return f
}
