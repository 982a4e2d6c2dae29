package heap

import (
	"fmt"
	"math"
	"slices"
	"strings"
	"testing"
	"unsafe"

	"ravelin/api"
	"ravelin/entry"
)

// putOf tells an entry with a Value.
func putOf(key string, seq int, value string) api.Entry {
	return api.Entry{Key: key, Seq: seq, Value: value}
}

// delOf tells an entry with Del.
func delOf(key string, seq int) api.Entry { return api.Entry{Key: key, Seq: seq, Del: true} }

// heapOf tells a heap of what was put, one behind the other.
func heapOf(l ...api.Entry) *Heap {
	h := New()
	for _, e := range l {
		h.Put(e)
	}
	return h
}

// model is a heap as the words tell it: entries in order.
type model []api.Entry

// put works out Put by the words of P10.1.
func (m *model) put(e api.Entry) bool {
	if !entry.Is(e) {
		return false
	}
	for _, x := range *m {
		if x.Key == e.Key && x.Seq == e.Seq {
			return false
		}
	}
	*m = append(*m, e)
	slices.SortFunc(*m, func(a, b api.Entry) int {
		if c := strings.Compare(a.Key, b.Key); c != 0 {
			return c
		}
		return b.Seq - a.Seq
	})
	return true
}

// between works out Range by the words of P10.1.
func (m model) between(from, to string) []api.Entry {
	var l []api.Entry
	for _, e := range m {
		if !(e.Key < from) && (to == "" || e.Key < to) {
			l = append(l, e)
		}
	}
	return l
}

// bytes works out Bytes by the words of P10.1.
func (m model) bytes() int {
	n := 0
	for _, e := range m {
		n += len(e.Key) + len(e.Value)
	}
	return n
}

// probes tells the keys of entries and those right beside them, and some that none is near to.
func probes(l []api.Entry) []string {
	keys := []string{"", "\x00", "\xff\xff", strings.Repeat("z", 40)}
	for _, e := range l {
		keys = append(keys, e.Key, e.Key+"\x00", e.Key[:len(e.Key)-1])
	}
	slices.Sort(keys)
	return slices.Compact(keys)
}

// seqsOf tells the numbers of entries and those right beside them, and some far off.
func seqsOf(l []api.Entry) []int {
	seqs := []int{math.MinInt, -1, 0, 1, api.MaxSeq, api.MaxSeq + 1, math.MaxInt}
	for _, e := range l {
		seqs = append(seqs, e.Seq-1, e.Seq, e.Seq+1)
	}
	slices.Sort(seqs)
	return slices.Compact(seqs)
}

// hold compares all that a heap tells, but Get and Range, to the model.
func hold(t *testing.T, name string, h *Heap, m model) {
	t.Helper()
	if l := h.All(); !slices.Equal(l, m) {
		t.Fatalf("%s: All %v, want %v", name, l, m)
	}
	if h.Len() != len(m) || h.Bytes() != m.bytes() {
		t.Fatalf("%s: Len %d, Bytes %d, want %d, %d", name, h.Len(), h.Bytes(), len(m), m.bytes())
	}
}

// holdAsked compares all that a heap tells to the model, whatever it is asked.
func holdAsked(t *testing.T, name string, h *Heap, m model) {
	t.Helper()
	hold(t, name, h, m)
	keys := probes(m)
	for _, key := range keys {
		for _, seq := range seqsOf(m) {
			want, there := entry.Newest(m, key, seq)
			if e, ok := h.Get(key, seq); e != want || ok != there {
				t.Fatalf("%s: Get(%q, %d): %v, %v, want %v, %v", name, key, seq, e, ok, want, there)
			}
		}
		for _, to := range keys {
			if l, want := h.Range(key, to), m.between(key, to); !slices.Equal(l, want) {
				t.Fatalf("%s: Range(%q, %q): %v, want %v", name, key, to, l, want)
			}
		}
	}
}

// few tells entries of several kinds, out of order.
func few() []api.Entry {
	return []api.Entry{
		putOf("m", 7, "seven"), putOf("b", 1, "one"), delOf("b", 3), putOf("a", 2, ""), putOf("b", 2, "x"),
		putOf("ab", 2, "two"), putOf("b\x00", 2, "\x00"), putOf("\xff", api.MaxSeq, "\xff"), delOf("\x00", 1),
	}
}

func TestExample(t *testing.T) { // the chapter's
	h := heapOf(putOf("b", 1, ""), putOf("a", 2, ""))
	if l := h.All(); !slices.Equal(l, []api.Entry{putOf("a", 2, ""), putOf("b", 1, "")}) {
		t.Errorf("All %v", l)
	}
}

func TestNew(t *testing.T) { // P10.1: nothing is there yet
	holdAsked(t, "new", New(), nil)
}

func TestPut(t *testing.T) { // P10.1: what entry's Is is there, all else isn't
	for _, c := range []struct {
		name string
		e    api.Entry
		want bool
	}{
		{"a value", putOf("a", 1, "x"), true},
		{"no value", putOf("a", 1, ""), true},
		{"Del", delOf("a", 1), true},
		{"the greatest Seq", putOf("a", api.MaxSeq, "x"), true},
		{"the longest key", putOf(strings.Repeat("k", api.MaxKey+1), 1, "x"), true},
		{"the longest value", putOf("a", 1, strings.Repeat("v", api.MaxValue)), true},
		{"any bytes", putOf("\xff\x00\n", 1, "\x80\x00"), true},
		{"nothing", api.Entry{}, false},
		{"no key", putOf("", 1, "x"), false},
		{"a key too long", putOf(strings.Repeat("k", api.MaxKey+2), 1, "x"), false},
		{"a value too long", putOf("a", 1, strings.Repeat("v", api.MaxValue+1)), false},
		{"Seq 0", putOf("a", 0, "x"), false},
		{"Seq -1", delOf("a", -1), false},
		{"a Seq too great", putOf("a", api.MaxSeq+1, "x"), false},
		{"the greatest int", putOf("a", math.MaxInt, "x"), false},
		{"Del with a value", api.Entry{Key: "a", Seq: 1, Del: true, Value: "x"}, false},
	} {
		for _, before := range [][]api.Entry{nil, {putOf("a", 9, "nine"), putOf("0", 1, ""), delOf("z", 4)}} {
			h, m := New(), model{}
			for _, e := range before {
				h.Put(e)
				m.put(e)
			}
			if ok := h.Put(c.e); ok != c.want || m.put(c.e) != c.want {
				t.Errorf("%s: %v, want %v", c.name, ok, c.want)
			}
			holdAsked(t, c.name, h, m)
		}
	}
}

func TestPutOfWhatIsThere(t *testing.T) { // P10.1: one of its Key and Seq, whatever else it is; nothing is changed
	for _, there := range few() {
		for _, other := range []api.Entry{there, putOf(there.Key, there.Seq, "other"), putOf(there.Key, there.Seq, ""), delOf(there.Key, there.Seq)} {
			h := heapOf(few()...)
			var m model
			for _, e := range few() {
				m.put(e)
			}
			if h.Put(other) {
				t.Errorf("%v beside %v: it was put", other, there)
			}
			holdAsked(t, "twice", h, m)
		}
	}
}

func TestPutBesideWhatIsThere(t *testing.T) { // P10.1: of another Key, or of another Seq
	m := model{}
	h := New()
	for _, e := range []api.Entry{putOf("b", 5, "x"), putOf("b", 4, "x"), putOf("b", 6, "x"), putOf("b\x00", 5, "x"), putOf("a", 5, "x"), delOf("bb", 5), delOf("c", 5)} {
		if !h.Put(e) || !m.put(e) {
			t.Errorf("%v: it was not put", e)
		}
		holdAsked(t, "beside", h, m)
	}
}

func TestAsked(t *testing.T) { // P10.1: ahead of, at, between and behind all that is there
	h, m := New(), model{}
	for _, e := range few() {
		h.Put(e)
		m.put(e)
		holdAsked(t, "few", h, m)
	}
}

func TestGet(t *testing.T) { // P10.1
	h := heapOf(putOf("b", 1, "one"), delOf("b", 3), putOf("b", 5, "five"), putOf("c", 4, "four"))
	for _, c := range []struct {
		key  string
		seq  int
		want api.Entry
		ok   bool
	}{
		{"b", 0, api.Entry{}, false},
		{"b", 1, putOf("b", 1, "one"), true},
		{"b", 2, putOf("b", 1, "one"), true},
		{"b", 3, delOf("b", 3), true},
		{"b", 4, delOf("b", 3), true},
		{"b", 5, putOf("b", 5, "five"), true},
		{"b", math.MaxInt, putOf("b", 5, "five"), true},
		{"c", 3, api.Entry{}, false},
		{"c", 4, putOf("c", 4, "four"), true},
		{"a", 9, api.Entry{}, false},
		{"bb", 9, api.Entry{}, false},
		{"d", 9, api.Entry{}, false},
		{"", 9, api.Entry{}, false},
		{"", 0, api.Entry{}, false},
	} {
		if e, ok := h.Get(c.key, c.seq); e != c.want || ok != c.ok {
			t.Errorf("Get(%q, %d): %v, %v, want %v, %v", c.key, c.seq, e, ok, c.want, c.ok)
		}
	}
}

func TestRange(t *testing.T) { // P10.1
	a, b3, b1, c := putOf("a", 2, "x"), delOf("b", 3), putOf("b", 1, "y"), putOf("c", api.MaxSeq, "")
	h := heapOf(c, b1, a, b3)
	for _, x := range []struct {
		from, to string
		want     []api.Entry
	}{
		{"", "", []api.Entry{a, b3, b1, c}},
		{"a", "", []api.Entry{a, b3, b1, c}},
		{"a", "c", []api.Entry{a, b3, b1}},
		{"a", "c\x00", []api.Entry{a, b3, b1, c}},
		{"b", "c", []api.Entry{b3, b1}},
		{"a\x00", "b\x00", []api.Entry{b3, b1}},
		{"c", "", []api.Entry{c}},
		{"c\x00", "", nil},
		{"", "a", nil},
		{"b", "b", nil},
		{"c", "a", nil},
		{"bb", "c", nil},
	} {
		if l := h.Range(x.from, x.to); !slices.Equal(l, x.want) {
			t.Errorf("Range(%q, %q): %v, want %v", x.from, x.to, l, x.want)
		}
	}
}

func TestLenAndBytes(t *testing.T) { // P10.1: Keys and Values, those of one Key each; of Del the Key alone
	h := New()
	for _, c := range []struct {
		e          api.Entry
		len, bytes int
	}{
		{putOf("key", 1, "value"), 1, 8},
		{putOf("key", 2, "new"), 2, 14},
		{delOf("key", 3), 3, 17},
		{putOf("a", 1, ""), 4, 18},
		{putOf("a", 1, "again"), 4, 18},
		{putOf("", 1, "none"), 4, 18},
		{putOf(strings.Repeat("k", api.MaxKey+1), 1, strings.Repeat("v", api.MaxValue)), 5, 18 + api.MaxKey + 1 + api.MaxValue},
	} {
		h.Put(c.e)
		if h.Len() != c.len || h.Bytes() != c.bytes {
			t.Errorf("behind %v: %d, %d, want %d, %d", c.e, h.Len(), h.Bytes(), c.len, c.bytes)
		}
	}
}

// permute tells all orders of a list.
func permute(l []api.Entry, tell func([]api.Entry)) {
	var from func(i int)
	from = func(i int) {
		if i == len(l) {
			tell(l)
			return
		}
		for k := i; k < len(l); k++ {
			l[i], l[k] = l[k], l[i]
			from(i + 1)
			l[i], l[k] = l[k], l[i]
		}
	}
	from(0)
}

func TestInWhateverOrder(t *testing.T) { // P10.2
	l := few()[:6]
	m := model{}
	for _, e := range l {
		m.put(e)
	}
	permute(l, func(l []api.Entry) {
		h := heapOf(l...)
		hold(t, fmt.Sprint(l), h, m)
		holdHeights(t, fmt.Sprint(l), h)
	})
}

func TestCopy(t *testing.T) { // P10.1: alike, and from then on each goes its own way
	for n := range len(few()) + 1 {
		h, m := heapOf(few()[:n]...), model{}
		for _, e := range few()[:n] {
			m.put(e)
		}
		other, otherModel := h.Copy(), slices.Clone(m)
		holdAsked(t, "copy", other, m)
		for i := range 20 {
			mine, its := putOf(fmt.Sprint("m", i), 1, "mine"), delOf("b", 10+i)
			if !h.Put(mine) || !m.put(mine) || !other.Put(its) || !otherModel.put(its) {
				t.Fatalf("%d: what isn't there was not put", i)
			}
			hold(t, "the first one", h, m)
			hold(t, "its copy", other, otherModel)
		}
		holdAsked(t, "the first one", h, m)
		holdAsked(t, "its copy", other, otherModel)
		holdAsked(t, "a copy's copy", other.Copy(), otherModel)
	}
}

// row is a row of numbers that are far from one another, the same ones each time.
type row uint64

// next tells a number from 0 to n-1.
func (r *row) next(n int) int {
	*r = *r*6364136223846793005 + 1442695040888963407
	return int(uint64(*r) >> 33 % uint64(n))
}

func TestLongScripts(t *testing.T) { // P10.1, P10.2
	for script := range 30 {
		r := row(script)
		h, m := New(), model{}
		for step := range 150 {
			e := putOf(string(rune('a'+r.next(6))), r.next(20), "v")
			switch r.next(6) {
			case 0:
				e.Del, e.Value = true, ""
			case 1:
				e.Key += string(rune('a' + r.next(3)))
			case 2:
				h = h.Copy()
			}
			if ok, want := h.Put(e), m.put(e); ok != want {
				t.Fatalf("script %d, step %d: Put(%v): %v, want %v", script, step, e, ok, want)
			}
			hold(t, fmt.Sprint("script ", script, ", step ", step), h, m)
		}
		holdAsked(t, fmt.Sprint("script ", script), h, m)
	}
}

// shapes tells how entries may come.
func shapes() map[string]func(i int) api.Entry {
	return map[string]func(i int) api.Entry{
		"one key, newer ones": func(i int) api.Entry { return putOf("a", 1+i, "") },
		"one key, older ones": func(i int) api.Entry { return putOf("a", api.MaxSeq-i, "") },
		"two keys by turns":   func(i int) api.Entry { return putOf([]string{"a", "b"}[i%2], 1+i, "") },
		"eight keys by turns": func(i int) api.Entry { return putOf(fmt.Sprint("k", i%8), 1+i/8, "") },
		"keys that rise":      func(i int) api.Entry { return putOf(fmt.Sprintf("k%06d", i), 1, "") },
		"keys that fall":      func(i int) api.Entry { return putOf(fmt.Sprintf("k%06d", 999999-i), 1+i, "") },
		"keys of few bytes":   func(i int) api.Entry { return putOf(string([]byte{byte(i), byte(i >> 8)}), 1, "") },
	}
}

// holdHeights tells whether each height is in order, and a part of the one beneath it.
func holdHeights(t *testing.T, name string, h *Heap) {
	t.Helper()
	for height := range h.front.next {
		many := 0
		for p := h.front.next[height]; p != nil; p = p.next[height] {
			many++
			if len(p.next) <= height || p.next[height] != nil && !entry.Less(p.entry, p.next[height].entry) {
				t.Fatalf("%s: height %d isn't one at %v", name, height, p.entry)
			}
		}
		tall := 0
		for p := h.front.next[0]; p != nil; p = p.next[0] {
			if len(p.next) > height {
				tall++
			}
		}
		if many != tall || many == 0 {
			t.Fatalf("%s: on height %d stand %d of %d", name, height, many, tall)
		}
	}
}

// stepsTo tells how many places a search looks at.
func stepsTo(h *Heap, e api.Entry) int {
	steps := 0
	at := &h.front
	for height := len(at.next) - 1; height >= 0; height-- {
		for steps++; at.next[height] != nil && entry.Less(at.next[height].entry, e); steps++ {
			at = at.next[height]
		}
	}
	return steps
}

func TestSearchIsShort(t *testing.T) { // the heights are there for it, however entries come
	const many = 4096
	for name, e := range shapes() {
		h := New()
		for i := range many {
			if !h.Put(e(i)) {
				t.Fatalf("%s: %v was not put", name, e(i))
			}
		}
		holdHeights(t, name, h)
		all := 0
		for i := range many {
			all += stepsTo(h, e(i))
		}
		if all > 40*many || !entry.Sorted(h.All()) || h.Len() != many {
			t.Errorf("%s: %d entries, %d steps for each", name, h.Len(), all/many)
		}
	}
}

func TestTellsNewLists(t *testing.T) { // no answer is touched by what is done with another one, its spare room too, nor the heap
	h := heapOf(few()...)
	m := slices.Clone(h.All())
	for _, ask := range []func() []api.Entry{h.All, func() []api.Entry { return h.Range("b", "c") }, h.Copy().All} {
		one, two := ask(), ask()
		want := slices.Clone(one)
		full := two[:cap(two)]
		for i := range full {
			full[i] = putOf("spoilt", 1, "")
		}
		_ = append(two[:1], delOf("spoilt", 2))
		if !slices.Equal(one, want) || !slices.Equal(ask(), want) {
			t.Errorf("%v, want %v", ask(), want)
		}
	}
	holdAsked(t, "behind it", h, m)
}

func TestKeepsNothingHandedIn(t *testing.T) {
	room := []byte("keyvalue")
	e := putOf(unsafe.String(&room[0], 3), 1, unsafe.String(&room[3], 5))
	h := heapOf(e)
	copy(room, "XXXXXXXX")
	if got, ok := h.Get("key", 1); !ok || got != putOf("key", 1, "value") {
		t.Errorf("%v, %v", got, ok)
	}
}

func TestOtherHeapsDoNotMatter(t *testing.T) { // several, told by turns, each hold their own
	heaps, models := []*Heap{New(), New(), New()}, make([]model, 3)
	for i, e := range few() {
		for k, h := range heaps {
			if (i+k)%3 > 0 && (!h.Put(e) || !models[k].put(e)) {
				t.Fatalf("%v: it was not put", e)
			}
		}
	}
	for k, h := range heaps {
		holdAsked(t, fmt.Sprint("heap ", k), h, models[k])
	}
}

func TestHeapThatNoNewMade(t *testing.T) { // a Heap{} takes all calls
	holdAsked(t, "asked", &Heap{}, nil)
	holdAsked(t, "copied", (&Heap{}).Copy(), nil)
	h, m := &Heap{}, model{}
	for _, e := range few() {
		if !h.Put(e) || !m.put(e) {
			t.Errorf("%v: it was not put", e)
		}
	}
	holdAsked(t, "put", h, m)
}
