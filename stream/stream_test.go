package stream

import (
	"math"
	"math/rand"
	"slices"
	"testing"

	"ravelin/api"
)

func TestNew(t *testing.T) { // P19.1: of none, turn 0, of whatever level
	for _, level := range numbers() {
		b := lay(level)
		b.check(t)
		b.copied().check(t)
	}
}

func TestAddOfEachLevel(t *testing.T) { // P19.1: items of all levels, handed to a stream of each, also of such as there are none
	for _, level := range numbers() {
		for _, other := range numbers() {
			b := lay(level)
			err := b.add(t, itemOf(other, 1, 0, example()...))
			good := 0 <= level && level <= 5
			if (err == api.OK) != (good && level == other) {
				t.Errorf("level %d at %d: %v", other, level, err)
			}
			b.add(t, shutOf(other, 1, 0))
			b.add(t, shutOf(other, 2, 0))
			b.check(t)
		}
	}
}

func TestAddNamesTheFirstError(t *testing.T) { // P19.1: of each error one, and all of them together
	for _, b := range []*bed{lay(2), filled(t, 2)} {
		n, turn := len(b.items)+1, b.turn
		for i := range 16 {
			x := itemOf(2, n, turn, example()...)
			want := api.OK
			if i&1 != 0 {
				x.Turn, want = turn+1, api.ErrTurn
			}
			if i&2 != 0 {
				x.N, want = n+1, api.ErrGap
			}
			if i&4 != 0 {
				x.Level, want = 3, api.ErrLevel
			}
			if i&8 != 0 {
				x.Writes, want = append(x.Writes, api.Write{}), api.ErrForm
			}
			k := b.copied()
			if err := k.add(t, x); err != want {
				t.Errorf("%v: %v, not %v", x, err, want)
			}
			k.check(t)
			x.Writes, x.Shut = nil, want != api.ErrForm // with neither of both it is none
			k = b.copied()
			if err := k.add(t, x); err != want {
				t.Errorf("%v: %v, not %v", x, err, want)
			}
			k.check(t)
		}
	}
}

func TestAddOfIllFormed(t *testing.T) { // P19.1: ErrForm, and nothing is changed
	b := filled(t, 2)
	n, turn := len(b.items)+1, b.turn
	bad := []api.Item{{}, itemOf(2, n, turn), itemOf(-1, n, turn, example()...), itemOf(6, n, turn, example()...), itemOf(2, 0, turn, example()...), itemOf(2, 1000001, turn, example()...), itemOf(2, n, -1, example()...), itemOf(2, n, 1000001, example()...)}
	for _, l := range append(badWrites(), example()) {
		bad = append(bad, api.Item{Level: 2, N: n, Turn: turn, Shut: true, Writes: l})
	}
	for _, l := range badWrites() {
		bad = append(bad, itemOf(2, n, turn, l...))
	}
	for _, x := range bad {
		if err := b.add(t, x); err != api.ErrForm {
			t.Errorf("%.200v: %v", x, err)
		}
	}
	b.check(t)
	if err := b.add(t, itemOf(2, n, turn, largest()...)); err != api.OK {
		t.Error(err)
	}
	b.check(t)
}

func TestAddOfAllNumbers(t *testing.T) { // P19.1: N and Turn about their edges, each with each
	b := filled(t, 2)
	for _, n := range numbers() {
		for _, turn := range numbers() {
			for _, x := range []api.Item{shutOf(2, n, turn), itemOf(2, n, turn, example()...), shutOf(3, n, turn), itemOf(2, n, turn)} {
				k := b.copied()
				k.add(t, x)
			}
		}
	}
	b.check(t)
}

func TestAddTwice(t *testing.T) { // P19.2: none comes again, none is left out, no turn comes again
	b := filled(t, 4)
	for _, x := range slices.Clone(b.items) {
		if err := b.add(t, cloneOf(x)); err != api.ErrGap {
			t.Errorf("%v: %v", x, err)
		}
		x = cloneOf(x)
		x.N = len(b.items) + 1
		if err := b.add(t, x); x.Turn != b.turn && err != api.ErrTurn {
			t.Errorf("%v: %v", x, err)
		}
	}
	b.checkOrder(t)
}

func TestTurn(t *testing.T) { // P19.1: one more behind a Shut, and behind nothing else
	b := lay(0)
	for i, c := range []struct {
		x    api.Item
		want api.Errno
		turn int
	}{
		{itemOf(0, 1, 1, example()...), api.ErrTurn, 0},
		{shutOf(0, 1, 1), api.ErrTurn, 0},
		{shutOf(0, 1, 0), api.OK, 1}, // as in the chapter's example
		{shutOf(0, 2, 0), api.ErrTurn, 1},
		{shutOf(0, 2, 2), api.ErrTurn, 1},
		{itemOf(0, 2, 0, example()...), api.ErrTurn, 1},
		{itemOf(0, 2, 1, example()...), api.OK, 1},
		{itemOf(0, 3, 1, example()...), api.OK, 1},
		{itemOf(0, 4, 0, example()...), api.ErrTurn, 1},
		{shutOf(0, 4, 1), api.OK, 2},
		{shutOf(0, 5, 2), api.OK, 3},
		{itemOf(0, 6, 3, delOf("a")), api.OK, 3},
	} {
		if err := b.add(t, c.x); err != c.want || b.s.Turn() != c.turn {
			t.Errorf("row %d: %v, turn %d", i, err, b.s.Turn())
		}
		b.check(t)
	}
	b.checkOrder(t)
}

func TestNext(t *testing.T) { // P19.1: what it tells may come next, if the writes and the turn may; it is itself not there
	for level := range 6 {
		b := filled(t, level)
		for _, l := range append(badWrites(), nil, []api.Write{}, example(), largest(), []api.Write{delOf("a")}) {
			b.checkNext(t, b.turn, l)
			x := b.s.Next(b.turn, l)
			if x.Shut != (len(l) == 0) || b.s.Len() != len(b.items) {
				t.Errorf("%.200v: %.200v, Len %d", l, x, b.s.Len())
			}
			want := api.ErrForm
			if isOf(x) {
				want = api.OK
			}
			if err := b.copied().add(t, x); err != want {
				t.Errorf("%.200v: %v, not %v", x, err, want)
			}
			if err := b.copied().add(t, b.s.Next(b.turn+1, l)); want == api.OK && err != api.ErrTurn {
				t.Errorf("%.200v, of the turn behind: %v", x, err)
			}
		}
		b.check(t)
	}
}

func TestFromAndItem(t *testing.T) { // P19.1: of 0 up to 10 items, all places and all sizes
	b := lay(3)
	for i := range 11 {
		for n := -3; n <= i+3; n++ {
			b.checkItem(t, n)
			for most := -3; most <= i+3; most++ {
				b.checkFrom(t, n, most)
			}
		}
		b.check(t)
		b.add(t, b.next(b.turn, example()[:i%5]))
	}
}

func TestCopy(t *testing.T) { // P19.1: what is done with one isn't seen in the other
	for many := range 9 { // of whatever many: also where more have room without being moved
		b := lay(1)
		for i := range many {
			b.add(t, b.next(b.turn, example()[i%2:]))
		}
		k, l := b.copied(), b.copied()
		k.check(t)
		k.add(t, k.next(k.turn, nil))
		k.add(t, k.next(k.turn, largest()))
		b.check(t)
		b.add(t, b.next(b.turn, []api.Write{putOf("other", "one")}))
		m := k.copied()
		m.add(t, m.next(m.turn, nil))
		for _, x := range []*bed{b, k, l, m} {
			x.check(t)
			x.checkOrder(t)
		}
	}
}

func TestStreamsApart(t *testing.T) { // what is told to one isn't seen in another one
	a, b := filled(t, 1), lay(1)
	b.check(t)
	b.add(t, b.next(0, []api.Write{putOf("z", "")}))
	a.check(t)
	b.check(t)
}

func TestAnswersAreNew(t *testing.T) { // no answer is touched by what is done with another one, nor the stream
	b := filled(t, 2)
	first := b.s.From(1, math.MaxInt)
	second := b.s.From(1, 99)
	third, _ := b.s.Item(1)
	fourth, _ := b.s.Item(1)
	k := b.copied()
	for i := range first {
		w := first[i].Writes
		clear(w[:cap(w)])
		first[i].N = -1
	}
	clear(first[:cap(first)])
	w := third.Writes
	clear(w[:cap(w)])
	if !slices.EqualFunc(second, b.items, sameOf) || !sameOf(fourth, b.items[0]) {
		t.Errorf("%v, %v", second, fourth)
	}
	for _, x := range second { // the lists of one answer have no room in common
		w := x.Writes
		for _, y := range w[len(w):cap(w)] {
			if y != (api.Write{}) {
				t.Errorf("behind item %d: %v", x.N, y)
			}
		}
		_ = append(w, putOf("behind", "it"))
	}
	if !slices.EqualFunc(second, b.items, sameOf) {
		t.Errorf("%v", second)
	}
	k.check(t)
	b.check(t)
}

func TestNextIsNew(t *testing.T) { // neither what is handed in nor what is told is kept
	b := filled(t, 2)
	l := append(example(), largest()...)[:4]
	x, y := b.s.Next(b.turn, l), b.s.Next(b.turn, l)
	clear(x.Writes[:cap(x.Writes)])
	if !slices.Equal(l[:12], append(example(), largest()...)) || !slices.Equal(y.Writes, example()) {
		t.Errorf("%v, %v", l, y)
	}
	clear(l[:cap(l)])
	if !slices.Equal(y.Writes, example()) {
		t.Errorf("%v", y)
	}
	b.add(t, y)
	b.check(t)
}

func TestNothingHandedInIsChanged(t *testing.T) { // the room behind it too
	whole := append(example(), largest()...)
	was := slices.Clone(whole)
	for size := range len(whole) + 1 {
		s := New(1)
		for _, x := range []api.Item{itemOf(1, 1, 0, whole[:size]...), itemOf(1, 2, 0, whole[:size]...), {Level: 1, N: 3, Shut: true, Writes: whole[:size]}} {
			s.Add(x)
			s.Next(0, whole[:size])
		}
		if !slices.Equal(whole, was) {
			t.Fatalf("%d of them: %v, not %v any more", size, whole, was)
		}
	}
}

func TestTheLastOne(t *testing.T) { // P19.1: as many items as a level commits, all of them Shuts; one more isn't an item
	s := New(5)
	for n := 1; n <= 1000000; n++ {
		if err := s.Add(shutOf(5, n, n-1)); err != api.OK {
			t.Fatalf("%d: %v", n, err)
		}
	}
	for _, x := range []api.Item{s.Next(1000000, nil), s.Next(1000000, example()), shutOf(5, 1000001, 1000000)} {
		if x.N != 1000001 || s.Add(x) != api.ErrForm {
			t.Errorf("%v", x)
		}
	}
	if err := s.Add(shutOf(5, 1000000, 1000000)); err != api.ErrGap {
		t.Error(err)
	}
	if s.Len() != 1000000 || s.Turn() != 1000000 {
		t.Errorf("%d, turn %d", s.Len(), s.Turn())
	}
	for _, n := range []int{1, 2, 999999, 1000000} {
		if x, ok := s.Item(n); !ok || !sameOf(x, shutOf(5, n, n-1)) {
			t.Errorf("%d: %v, %v", n, x, ok)
		}
	}
	if x, ok := s.Item(1000001); ok || !sameOf(x, api.Item{}) {
		t.Errorf("%v, %v", x, ok)
	}
	if l := s.From(999999, 40); len(l) != 2 || l[0].N != 999999 || l[1].N != 1000000 {
		t.Errorf("%v", l)
	}
	for n := 1; n < 1000000; n += 3 { // few of many, and no more is gone through
		if l := s.From(n, 1); len(l) != 1 || l[0].N != n {
			t.Fatalf("%d: %v", n, l)
		}
	}
	if l := s.From(math.MinInt, math.MaxInt); len(l) != 1000000 {
		t.Errorf("%d", len(l))
	}
}

func TestTheLastOneWithWrites(t *testing.T) { // P19.1: the last item is one with writes, behind others of turn 0
	s := New(0)
	for n := 1; n <= 1000000; n++ {
		if err := s.Add(itemOf(0, n, 0, delOf("a"))); err != api.OK {
			t.Fatalf("%d: %v", n, err)
		}
	}
	if s.Turn() != 0 || s.Len() != 1000000 || s.Add(s.Next(0, nil)) != api.ErrForm || s.Turn() != 0 {
		t.Errorf("%d, turn %d", s.Len(), s.Turn())
	}
}

func TestManySteps(t *testing.T) { // P19.1, P19.2: long rows of whatever, held against the words
	for seed := range int64(40) {
		r := rand.New(rand.NewSource(seed))
		b := lay(r.Intn(6))
		all := append(badWrites(), nil, nil, nil, example(), largest(), []api.Write{delOf("a")}, []api.Write{putOf("a", "x")})
		for range 200 {
			x := b.next(b.turn, slices.Clone(all[r.Intn(len(all))]))
			switch r.Intn(8) {
			case 0:
				x.Level += r.Intn(5) - 2
			case 1:
				x.N += r.Intn(5) - 2
			case 2:
				x.Turn += r.Intn(5) - 2
			case 3:
				x.Shut = !x.Shut
			case 4:
				b = b.copied()
			}
			b.add(t, x)
			b.checkItem(t, r.Intn(len(b.items)+3)-1)
			b.checkFrom(t, r.Intn(len(b.items)+5)-2, r.Intn(len(b.items)+5)-2)
		}
		b.check(t)
		b.checkOrder(t)
	}
}
