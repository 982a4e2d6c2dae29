package stream

import (
	"math"
	"slices"
	"strings"
	"testing"

	"ravelin/api"
)

// putOf tells a write with a Value.
func putOf(key, value string) api.Write { return api.Write{Key: key, Value: value} }

// delOf tells a write with Del.
func delOf(key string) api.Write { return api.Write{Key: key, Del: true} }

// itemOf tells an item of these writes.
func itemOf(level, n, turn int, l ...api.Write) api.Item {
	return api.Item{Level: level, N: n, Turn: turn, Writes: l}
}

// shutOf tells a Shut.
func shutOf(level, n, turn int) api.Item {
	return api.Item{Level: level, N: n, Turn: turn, Shut: true}
}

// isOf works out item's Is by the words of P18.1 (and of P12.1, of the writes).
func isOf(x api.Item) bool {
	good := 0 <= x.Level && x.Level <= 5 && 1 <= x.N && x.N <= 1000000 && 0 <= x.Turn && x.Turn <= 1000000
	if x.Shut {
		return good && len(x.Writes) == 0
	}
	good = good && 1 <= len(x.Writes) && len(x.Writes) <= 8
	for i, w := range x.Writes {
		good = good && 1 <= len(w.Key) && len(w.Key) <= 12 && len(w.Value) <= 24 && (!w.Del || w.Value == "")
		good = good && (i == 0 || x.Writes[i-1].Key < w.Key)
	}
	return good
}

// sameOf tells whether all parts are the same.
func sameOf(a, b api.Item) bool {
	return a.Level == b.Level && a.N == b.N && a.Turn == b.Turn && a.Shut == b.Shut && slices.Equal(a.Writes, b.Writes)
}

// cloneOf tells an item alike, with a list of its own.
func cloneOf(x api.Item) api.Item {
	x.Writes = slices.Clone(x.Writes)
	return x
}

// example tells plain writes.
func example() []api.Write {
	return []api.Write{putOf("a", "xy"), delOf("b"), putOf("ba", ""), putOf("c\x00", "\xff\x01")}
}

// largest tells as many writes as an item has at most, of the longest Keys and Values.
func largest() []api.Write {
	var l []api.Write
	for i := range 8 {
		l = append(l, putOf(strings.Repeat("k", 11)+string([]byte{byte('a' + i)}), strings.Repeat("v", 24)))
	}
	return l
}

// badWrites tells lists of writes that no item has.
func badWrites() [][]api.Write {
	return [][]api.Write{{{}}, {putOf("", "x")}, {putOf(strings.Repeat("k", 13), "")}, {delOf(strings.Repeat("k", 13))}, {putOf("k", strings.Repeat("v", 25))}, {{Key: "k", Del: true, Value: "x"}},
		{putOf("b", ""), putOf("a", "")}, {putOf("a", ""), putOf("a", "")}, append(largest(), putOf("z", "")), {putOf("a", ""), putOf(strings.Repeat("k", 13), "")}}
}

// numbers tells some about the edges.
func numbers() []int {
	return []int{math.MinInt, math.MinInt + 1, math.MinInt32, -1000000, -2, -1, 0, 1, 2, 3, 4, 5, 6, 7, 8, 9, 10, 63, 64, 65, 255, 256, 65536, 999999, 1000000, 1000001, math.MaxInt32, 1 << 32, 1<<32 + 1, 1<<32 + 2, math.MaxInt - 1, math.MaxInt}
}

// bed is a stream, and what the words of P19.1 say of it.
type bed struct {
	s     *Stream
	level int
	turn  int
	items []api.Item
}

// lay tells a stream of none.
func lay(level int) *bed { return &bed{s: New(level), level: level} }

// wants works out what Add tells by the words of P19.1.
func (b *bed) wants(x api.Item) api.Errno {
	if !isOf(x) {
		return api.ErrForm
	}
	if x.Level != b.level {
		return api.ErrLevel
	}
	if x.N != len(b.items)+1 {
		return api.ErrGap
	}
	if x.Turn != b.turn {
		return api.ErrTurn
	}
	return api.OK
}

// add holds Add against the words, and that what is handed in is neither changed nor kept.
func (b *bed) add(t *testing.T, x api.Item) api.Errno {
	t.Helper()
	was := cloneOf(x)
	want := b.wants(x)
	got := b.s.Add(x)
	if got != want {
		t.Errorf("P19.1: behind %d, turn %d: Add(%.200v): %v, not %v", len(b.items), b.turn, x, got, want)
	}
	if !sameOf(x, was) {
		t.Errorf("P19.1: Add(%.200v): handed in as %.200v", x, was)
	}
	clear(x.Writes) // whoever handed it in may do what he likes with it
	if want == api.OK {
		b.items = append(b.items, was)
		if x.Shut {
			b.turn++
		}
	}
	b.checkEnds(t)
	return got
}

// next works out Next by the words of P19.1.
func (b *bed) next(turn int, l []api.Write) api.Item {
	return api.Item{Level: b.level, N: len(b.items) + 1, Turn: turn, Shut: len(l) == 0, Writes: l}
}

// checkEnds holds Len and Turn against the words, and the items about the ends.
func (b *bed) checkEnds(t *testing.T) {
	t.Helper()
	if b.s.Len() != len(b.items) || b.s.Turn() != b.turn {
		t.Errorf("P19.1: Len %d, Turn %d, not %d, %d", b.s.Len(), b.s.Turn(), len(b.items), b.turn)
	}
	for _, n := range []int{0, 1, len(b.items) - 1, len(b.items), len(b.items) + 1} {
		b.checkItem(t, n)
	}
}

// checkItem holds Item against the words.
func (b *bed) checkItem(t *testing.T, n int) {
	t.Helper()
	var want api.Item
	has := 1 <= n && n <= len(b.items)
	if has {
		want = b.items[n-1]
	}
	if x, ok := b.s.Item(n); !sameOf(x, want) || ok != has {
		t.Errorf("P19.1: of %d: Item(%d): %v, %v, not %v, %v", len(b.items), n, x, ok, want, has)
	}
}

// checkFrom holds From against the words.
func (b *bed) checkFrom(t *testing.T, n, most int) {
	t.Helper()
	var want []api.Item
	for _, x := range b.items {
		if x.N >= n && len(want) < most {
			want = append(want, x)
		}
	}
	if l := b.s.From(n, most); !slices.EqualFunc(l, want, sameOf) {
		t.Errorf("P19.1: of %d: From(%d, %d): %v, not %v", len(b.items), n, most, l, want)
	}
}

// checkNext holds Next against the words, and that what is handed in isn't changed.
func (b *bed) checkNext(t *testing.T, turn int, l []api.Write) {
	t.Helper()
	was := slices.Clone(l)
	if x, want := b.s.Next(turn, l), b.next(turn, was); !sameOf(x, want) {
		t.Errorf("P19.1: of %d: Next(%d, %.200v): %.200v", len(b.items), turn, l, x)
	}
	if !slices.Equal(l, was) {
		t.Errorf("P19.1: Next: handed in as %.200v, not %.200v", l, was)
	}
}

// check holds all that is told of a stream against the words.
func (b *bed) check(t *testing.T) {
	t.Helper()
	b.checkEnds(t)
	for n := -2; n <= len(b.items)+2; n++ {
		b.checkItem(t, n)
		for _, most := range []int{-1, 0, 1, 2, len(b.items) - n, len(b.items) - n + 1, len(b.items), len(b.items) + 1} {
			b.checkFrom(t, n, most)
		}
	}
	for _, n := range numbers() {
		b.checkItem(t, n)
		for _, most := range numbers() {
			b.checkFrom(t, n, most)
		}
		b.checkNext(t, n, nil)
		b.checkNext(t, n, []api.Write{})
		b.checkNext(t, n, example())
	}
}

// checkOrder holds that one is behind the other, turn by turn.
func (b *bed) checkOrder(t *testing.T) {
	t.Helper()
	turn := 0
	for i, x := range b.s.From(1, math.MaxInt) {
		if x.Level != b.level || x.N != i+1 || x.Turn != turn || !isOf(x) {
			t.Errorf("P19.2: item %d, turn %d: %v", i+1, turn, x)
		}
		if x.Shut {
			turn++
		}
	}
	if turn != b.s.Turn() {
		t.Errorf("P19.2: Turn %d, not %d", b.s.Turn(), turn)
	}
}

// copied tells a bed of the stream's copy.
func (b *bed) copied() *bed {
	return &bed{s: b.s.Copy(), level: b.level, turn: b.turn, items: slices.Clone(b.items)}
}

// filled tells a stream of some items of some turns.
func filled(t *testing.T, level int) *bed {
	t.Helper()
	b := lay(level)
	for _, l := range [][]api.Write{example(), {putOf("a", "")}, nil, nil, {delOf("a")}, largest(), nil, {putOf("b", "x")}} {
		if err := b.add(t, b.next(b.turn, l)); err != api.OK {
			t.Fatal(err)
		}
	}
	return b
}
