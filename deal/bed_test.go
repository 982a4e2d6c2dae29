package deal

import (
	"fmt"
	"maps"
	"slices"
	"strings"
	"testing"

	"ravelin/api"
	"ravelin/engine"
	"ravelin/sheet"
	"ravelin/shelf"
	"ravelin/table"
)

func put(key, value string) api.Write { return api.Write{Key: key, Value: value} }

func del(key string) api.Write { return api.Write{Key: key, Del: true} }

// bed is an engine on its shelf, and what it has to tell.
type bed struct {
	t     *testing.T
	f     *shelf.Shelf
	e     *engine.Engine
	seq   int
	state map[string]string // of each key of the engine that is there its value
}

// lay tells an engine of nothing.
func lay(t *testing.T) *bed {
	t.Helper()
	b := &bed{t: t, f: shelf.New(api.MaxRoom), state: map[string]string{}}
	b.open()
	return b
}

// open opens the shelf.
func (b *bed) open() {
	b.t.Helper()
	e, err := engine.Open(b.f)
	if err != api.OK {
		b.t.Fatal(err)
	}
	b.e = e
}

// do has somebody else write; these keys have their space ahead.
func (b *bed) do(l ...api.Write) {
	b.t.Helper()
	if _, err := b.e.Do(l, true); err != api.OK {
		b.t.Fatalf("%v: %v", l, err)
	}
	b.did(l)
}

// did has a batch be done.
func (b *bed) did(l []api.Write) {
	b.seq++
	b.state = maps.Clone(b.state) // a deal that is open has the one that was
	for _, w := range l {
		if w.Del {
			delete(b.state, w.Key)
		} else {
			b.state[w.Key] = w.Value
		}
	}
}

// table has a batch be in a table, whatever is in memory with it.
func (b *bed) table(l ...api.Write) {
	b.t.Helper()
	b.do(l...)
	if err := b.e.Flush(); err != api.OK {
		b.t.Fatal(err)
	}
}

// stored tells of how many entries the engine's tables are, when all is made one.
func (b *bed) stored() int {
	b.t.Helper()
	for range 2 { // fewer than two tables aren't merged
		b.table(put("zz", "z"))
	}
	if err := b.e.Merge(); err != api.OK {
		b.t.Fatal(err)
	}
	many := 0
	for _, t := range b.e.Tables() {
		many += t.Count
	}
	return many
}

// check holds what the engine tells against all that was done.
func (b *bed) check() {
	b.t.Helper()
	if b.e.Seq() != b.seq {
		b.t.Fatalf("P17.4: Seq %d, not %d", b.e.Seq(), b.seq)
	}
	for _, key := range slices.Sorted(maps.Keys(b.state)) {
		if v, ok, err := b.e.Get(key, b.seq); v != b.state[key] || !ok || err != api.OK {
			b.t.Errorf("P17.4: %q: %q, %v, %v, not %q", key, v, ok, err, b.state[key])
		}
	}
	if l, err := b.e.Scan("", "", b.seq); len(l) != min(len(b.state), api.MaxScan) || err != api.OK {
		b.t.Errorf("P17.4: %v, %v, not %v", l, err, b.state)
	}
}

// told tells all of an engine and its shelf that can be told.
func (b *bed) told() string {
	s := fmt.Sprint(b.e.Seq(), b.e.Heap(), b.e.Tables(), b.f.Loose(), b.f.Used())
	for _, name := range b.f.Names() {
		laid, _ := b.f.Get(name)
		s += fmt.Sprintf(" %s=%q", name, laid)
	}
	return s
}

// twin is a deal, and beside it what it has to tell by the words of the promises.
type twin struct {
	b      *bed
	d      *Deal
	home   byte
	over   bool
	was    map[string]string // the bed's state when it was opened
	reads  []api.Read
	writes map[string]api.Write
}

// deal opens one.
func (b *bed) deal(home byte) *twin {
	b.t.Helper()
	d := Open(b.e, home)
	if d == nil {
		b.t.Fatal("P17.1: no deal")
	}
	return &twin{b: b, d: d, home: home, was: b.state, writes: map[string]api.Write{}}
}

// pairsOf works out a Scan of a space by the words of P17.1, ahead of Writes.
func pairsOf(state map[string]string, space byte, from, to string) []api.Pair {
	var l []api.Pair
	for _, key := range slices.Sorted(maps.Keys(state)) {
		rest := key[1:]
		if key[0] == space && rest != "" && rest >= from && (to == "" || rest < to) && len(l) < 64 {
			l = append(l, api.Pair{Key: rest, Value: state[key]})
		}
	}
	return l
}

// readOf works out what a Read tells of a state.
func readOf(state map[string]string, r api.Read) []api.Pair {
	if r.Scan {
		return pairsOf(state, byte(r.Level), r.From, r.To)
	}
	if v, ok := state[string([]byte{byte(r.Level)})+r.From]; ok {
		return []api.Pair{{Key: r.From, Value: v}}
	}
	return nil
}

// same tells whether two lists are of the same Reads.
func same(a, b []api.Read) bool {
	return slices.EqualFunc(a, b, func(x, y api.Read) bool {
		return x.Level == y.Level && x.Scan == y.Scan && x.From == y.From && x.To == y.To && slices.Equal(x.Pairs, y.Pairs)
	})
}

// isForm tells whether a key is ErrForm.
func isForm(key string) bool { return key == "" || len(key) > 12 }

func (w *twin) get(space byte, key string) {
	w.b.t.Helper()
	var want []api.Pair
	err := api.OK
	own, has := w.writes[key]
	r := api.Read{Level: int(space), From: key}
	switch {
	case w.over:
		err = api.ErrNone
	case isForm(key):
		err = api.ErrForm
	case space == w.home && has && own.Del:
	case space == w.home && has:
		want = []api.Pair{{Key: key, Value: own.Value}}
	default:
		want = readOf(w.was, r)
		r.Pairs = want
		w.reads = append(w.reads, r)
	}
	value := ""
	if len(want) > 0 {
		value = want[0].Value
	}
	if v, ok, e := w.d.Get(space, key); v != value || ok != (len(want) > 0) || e != err {
		w.b.t.Errorf("P17.1: Get(%q, %q): %q, %v, %v, not %v, %v", space, key, v, ok, e, want, err)
	}
	w.check()
}

func (w *twin) scan(space byte, from, to string) {
	w.b.t.Helper()
	var want []api.Pair
	err := api.OK
	if w.over {
		err = api.ErrNone
	} else {
		r := api.Read{Level: int(space), Scan: true, From: from, To: to, Pairs: pairsOf(w.was, space, from, to)}
		w.reads = append(w.reads, r)
		want = w.seen(r)
	}
	if l, e := w.d.Scan(space, from, to); !slices.Equal(l, want) || e != err {
		w.b.t.Errorf("P17.1: Scan(%q, %q, %q): %v, %v, not %v, %v", space, from, to, l, e, want, err)
	}
	w.check()
}

// seen works out what a Scan tells, Writes put upon it.
func (w *twin) seen(r api.Read) []api.Pair {
	if r.Level != int(w.home) {
		return r.Pairs
	}
	upon := map[string]string{}
	for _, p := range r.Pairs {
		upon["."+p.Key] = p.Value
	}
	for key, x := range w.writes {
		if x.Del {
			delete(upon, "."+key)
		} else {
			upon["."+key] = x.Value
		}
	}
	return pairsOf(upon, '.', r.From, r.To)
}

func (w *twin) write(x api.Write) {
	w.b.t.Helper()
	err := api.OK
	_, has := w.writes[x.Key]
	switch {
	case w.over:
		err = api.ErrNone
	case isForm(x.Key) || len(x.Value) > 24:
		err = api.ErrForm
	case len(w.writes) == 8 && !has:
		err = api.ErrLarge
	default:
		w.writes[x.Key] = x
	}
	var got api.Errno
	if x.Del {
		got = w.d.Delete(x.Key)
	} else {
		got = w.d.Put(x.Key, x.Value)
	}
	if got != err {
		w.b.t.Errorf("P17.1: %v: %v, not %v", x, got, err)
	}
	w.check()
}

// ready works out Ready by the words of P17.3.
func (w *twin) ready() api.Errno {
	if w.over {
		return api.ErrNone
	}
	for _, r := range w.reads {
		if !slices.Equal(readOf(w.b.state, r), r.Pairs) {
			return api.ErrClash
		}
	}
	return api.OK
}

func (w *twin) commit() {
	w.b.t.Helper()
	err := w.ready()
	want := 0
	if err == api.OK && len(w.writes) > 0 {
		w.b.did(w.batch())
		want = w.b.seq
	}
	if n, e := w.d.Commit(); n != want || e != err {
		w.b.t.Errorf("P17.3: Commit: %d, %v, not %d, %v", n, e, want, err)
	}
	if want > 0 && w.b.f.Loose() != 0 {
		w.b.t.Errorf("P17.3: %d are loose", w.b.f.Loose())
	}
	w.over = true
	w.check()
	w.b.check()
}

// batch tells Writes as the engine has them.
func (w *twin) batch() []api.Write {
	var l []api.Write
	for _, key := range slices.Sorted(maps.Keys(w.writes)) {
		x := w.writes[key]
		x.Key = string([]byte{w.home}) + key
		l = append(l, x)
	}
	return l
}

func (w *twin) abort() {
	w.b.t.Helper()
	w.d.Abort()
	w.over = true
	w.check()
}

// check holds what a deal tells of itself.
func (w *twin) check() {
	w.b.t.Helper()
	if got := w.d.Reads(); !same(got, w.reads) {
		w.b.t.Errorf("P17.2: Reads:\n%v, not\n%v", got, w.reads)
	}
	var want []api.Write
	for _, key := range slices.Sorted(maps.Keys(w.writes)) {
		want = append(want, w.writes[key])
	}
	if got := w.d.Writes(); !slices.Equal(got, want) {
		w.b.t.Errorf("P17.1: Writes: %v, not %v", got, want)
	}
	if got, want := w.d.Ready(), w.ready(); got != want {
		w.b.t.Errorf("P17.3: Ready: %v, not %v, of %v", got, want, w.reads)
	}
}

// checkOver holds that a deal is over.
func checkOver(t *testing.T, d *Deal) {
	t.Helper()
	reads, writes := fmt.Sprint(d.Reads()), fmt.Sprint(d.Writes())
	for range 2 {
		for _, key := range []string{"k", "", "own", strings.Repeat("k", 13)} {
			if v, ok, err := d.Get('b', key); v != "" || ok || err != api.ErrNone {
				t.Errorf("P17.3: over: Get(%q): %q, %v, %v", key, v, ok, err)
			}
			if err := d.Put(key, "v"); err != api.ErrNone {
				t.Errorf("P17.3: over: Put(%q): %v", key, err)
			}
			if err := d.Delete(key); err != api.ErrNone {
				t.Errorf("P17.3: over: Delete(%q): %v", key, err)
			}
			if l, err := d.Scan('b', key, ""); len(l) != 0 || err != api.ErrNone {
				t.Errorf("P17.3: over: Scan(%q): %v, %v", key, l, err)
			}
		}
		if err := d.Ready(); err != api.ErrNone {
			t.Errorf("P17.3: over: Ready: %v", err)
		}
		if n, err := d.Commit(); n != 0 || err != api.ErrNone {
			t.Errorf("P17.3: over: Commit: %d, %v", n, err)
		}
		d.Abort()
	}
	if fmt.Sprint(d.Reads()) != reads || fmt.Sprint(d.Writes()) != writes {
		t.Errorf("P17.3: over: %v, %v, not %s, %s", d.Reads(), d.Writes(), reads, writes)
	}
}

// crafted tells an engine with one table: the block with its Key ak is spoilt, that with aa isn't.
func crafted(t *testing.T) *engine.Engine {
	t.Helper()
	const value = "a value of some bytes"
	l := []api.Entry{{Key: "aa", Seq: 1, Value: "1"}}
	for seq := 40; seq > 0; seq-- {
		l = append(l, api.Entry{Key: "ak", Seq: seq, Value: value})
	}
	laid, err := table.Make(l)
	if err != api.OK {
		t.Fatal(err)
	}
	last := strings.LastIndex(laid, value)
	return opened(t, api.Edit{Come: []api.Table{{ID: 1, First: "aa", End: "ak", Count: len(l)}}, Log: 1, Seq: 3}, laid[:last]+"A"+laid[last+1:])
}

// opened opens an engine on a shelf with a sheet of that edit, and with its tables.
func opened(t *testing.T, edit api.Edit, tables ...string) *engine.Engine {
	t.Helper()
	laid, err := sheet.Bytes(edit)
	if err != api.OK {
		t.Fatal(err)
	}
	f := shelf.New(api.MaxRoom)
	for i, s := range tables {
		f.Put(fmt.Sprintf("tab-%06d", edit.Come[i].ID), s)
	}
	f.Put("sheet", laid)
	e, err := engine.Open(f)
	if err != api.OK {
		t.Fatal(err)
	}
	return e
}
