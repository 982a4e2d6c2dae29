package lattice

import (
	"math"
	"slices"
	"testing"

	"ravelin/api"
)

// of tells a lattice by rows of noughts and ones.
func of(rows ...string) api.Lattice {
	var l api.Lattice
	for _, r := range rows {
		var row []bool
		for _, c := range r {
			row = append(row, c == '1')
		}
		l.Dom = append(l.Dom, row)
	}
	return l
}

// text tells the rows of a lattice as of takes them, with a blank behind each.
func text(l api.Lattice) string {
	s := ""
	for _, row := range l.Dom {
		for _, lower := range row {
			if lower {
				s += "1"
			} else {
				s += "0"
			}
		}
		s += " "
	}
	return s
}

// six has as many levels as there may be: 5 above all; 3 above 0, 1; 4 above 1, 2.
func six() api.Lattice {
	return of("100000", "010000", "001000", "110100", "011010", "111111")
}

// upsideDown has the higher levels ahead of the lower ones: 0 above all, 1 and 2 above 3.
func upsideDown() api.Lattice {
	return of("1111", "0101", "0011", "0001")
}

func TestCheckTellsForm(t *testing.T) { // P1.1
	for name, l := range map[string]api.Lattice{
		"no rows":                 {},
		"no rows, but a list":     {Dom: [][]bool{}},
		"a row that is nil":       {Dom: [][]bool{nil}},
		"a row that is empty":     {Dom: [][]bool{{true}, {}}},
		"a short row":             of("10", "1"),
		"a long row":              of("10", "110"),
		"a long row alone":        of("11"),
		"all rows too short":      of("10", "11", "11"),
		"all rows too long":       of("100", "110"),
		"a level too many":        of("1000000", "0100000", "0010000", "0001000", "0000100", "0000010", "0000001"),
		"short, and no order too": of("00", "0"),
		"many rows":               {Dom: make([][]bool, 100000)},
	} {
		if e := Check(l); e != api.ErrForm {
			t.Errorf("%s: %v", name, e)
		}
	}
}

func TestCheckTellsLattice(t *testing.T) { // P1.1
	for name, l := range map[string]api.Lattice{
		"not of itself, alone":      of("0"),
		"the last not of itself":    of("100", "010", "000"),
		"the first not of itself":   of("00", "01"),
		"of one another":            of("11", "11"),
		"of one another, far apart": of("1001", "0100", "0010", "1001"),
		"a step lacks upward":       of("100", "110", "011"),
		"a step lacks downward":     of("110", "011", "001"),
		"a ring":                    of("110", "011", "101"),
		"a long step lacks":         of("100000", "110000", "111000", "111100", "111110", "011111"),
	} {
		if e := Check(l); e != api.ErrLattice {
			t.Errorf("%s: %v", name, e)
		}
	}
}

func TestCheckTakesLattices(t *testing.T) { // P1.1
	for name, l := range map[string]api.Lattice{
		"one":            of("1"),
		"two apart":      of("10", "01"),
		"two up":         of("10", "11"),
		"two down":       of("11", "01"),
		"as many as may": six(),
		"six apart":      of("100000", "010000", "001000", "000100", "000010", "000001"),
		"upside down":    upsideDown(),
	} {
		if e := Check(l); e != api.OK {
			t.Errorf("%s: %v", name, e)
		}
		if n := Levels(l); n != len(l.Dom) {
			t.Errorf("%s: %d levels", name, n)
		}
	}
}

func TestNothingOfWhatErrs(t *testing.T) { // P1.1, P1.2
	for name, l := range map[string]api.Lattice{
		"no rows":        {},
		"a row nil":      {Dom: [][]bool{{true, false}, nil}},
		"a long row":     of("10", "111"),
		"of one another": of("11", "11"),
		"not of itself":  of("10", "10"),
		"a step lacks":   of("100", "110", "011"),
		"too many": of("1000000", "1100000", "1110000", "1111000",
			"1111100", "1111110", "1111111"),
	} {
		if n := Levels(l); n != 0 {
			t.Errorf("%s: %d levels", name, n)
		}
		if o := Order(l); len(o) != 0 {
			t.Errorf("%s: order %v", name, o)
		}
		for a := -1; a <= len(l.Dom); a++ {
			if len(Below(l, a)) != 0 || len(Covers(l, a)) != 0 {
				t.Errorf("%s: something is below %d", name, a)
			}
			for b := -1; b <= len(l.Dom); b++ {
				if j, ok := Join(l, a, b); j != 0 || ok || Dom(l, a, b) || Above(l, a, b) {
					t.Errorf("%s: something is told of %d, %d", name, a, b)
				}
			}
		}
	}
}

func TestNothingOfNoLevel(t *testing.T) { // P1.1, P1.2
	for _, l := range []api.Lattice{of("1"), six(), upsideDown()} {
		n := len(l.Dom)
		for _, a := range []int{-1, n, n + 1, math.MinInt, math.MaxInt} {
			if len(Below(l, a)) != 0 || len(Covers(l, a)) != 0 || Dom(l, a, a) || Above(l, a, a) {
				t.Errorf("%d levels: something is told of %d", n, a)
			}
			if j, ok := Join(l, a, a); j != 0 || ok {
				t.Errorf("%d levels: join of %d twice: %d, %v", n, a, j, ok)
			}
			for b := range n {
				if Dom(l, a, b) || Dom(l, b, a) || Above(l, a, b) || Above(l, b, a) {
					t.Errorf("%d levels: something is told of %d, %d", n, a, b)
				}
				i, yes := Join(l, a, b)
				j, ok := Join(l, b, a)
				if i != 0 || yes || j != 0 || ok {
					t.Errorf("%d levels: a join of %d, %d", n, a, b)
				}
			}
		}
	}
}

func TestBelowAndCovers(t *testing.T) { // P1.1
	for _, c := range []struct {
		name          string
		l             api.Lattice
		below, covers [][]int
	}{
		{"six", six(), [][]int{{}, {}, {}, {0, 1}, {1, 2}, {0, 1, 2, 3, 4}}, [][]int{{}, {}, {}, {0, 1}, {1, 2}, {3, 4}}},
		{"upside down", upsideDown(), [][]int{{1, 2, 3}, {3}, {3}, {}}, [][]int{{1, 2}, {3}, {3}, {}}},
		{"a chain", Chain(4), [][]int{{}, {0}, {0, 1}, {0, 1, 2}}, [][]int{{}, {0}, {1}, {2}}},
		{"one", of("1"), [][]int{{}}, [][]int{{}}},
		{"beside a chain", of("111", "011", "001"), [][]int{{1, 2}, {2}, {}}, [][]int{{1}, {2}, {}}},
	} {
		for a := range c.l.Dom {
			if got := Below(c.l, a); !slices.Equal(got, c.below[a]) {
				t.Errorf("%s: below %d: %v", c.name, a, got)
			}
			if got := Covers(c.l, a); !slices.Equal(got, c.covers[a]) {
				t.Errorf("%s: covers of %d: %v", c.name, a, got)
			}
		}
	}
}

func TestOrderTakesTheLeast(t *testing.T) { // P1.2
	for _, c := range []struct {
		l    api.Lattice
		want []int
	}{
		{of("1"), []int{0}},
		{Chain(3), []int{0, 1, 2}},
		{Chain(6), []int{0, 1, 2, 3, 4, 5}},
		{six(), []int{0, 1, 2, 3, 4, 5}},
		{upsideDown(), []int{3, 1, 2, 0}},
		{of("10", "01"), []int{0, 1}},
		{of("11", "01"), []int{1, 0}},
		// 0 above 2: as 2 is placed, 0 goes ahead of 3, which might have gone next too.
		{of("1010", "0100", "0010", "0001"), []int{1, 2, 0, 3}},
		// 0 above 1, 1 above 5: 1 and 0 wait for 5, behind 2, 3, 4.
		{of("110001", "010001", "001000", "000100", "000010", "000001"), []int{2, 3, 4, 5, 1, 0}},
	} {
		if got := Order(c.l); !slices.Equal(got, c.want) {
			t.Errorf("order of %s: %v, not %v", text(c.l), got, c.want)
		}
	}
}

func TestJoinIsTheLeast(t *testing.T) { // P1.2
	twoTops := of("1000", "0100", "1110", "1101")
	overBoth := of("10000", "01000", "11100", "11010", "11111")
	for _, c := range []struct {
		l          api.Lattice
		a, b, want int
		ok         bool
	}{
		{six(), 0, 0, 0, true},
		{six(), 0, 1, 3, true},
		{six(), 1, 2, 4, true},
		{six(), 0, 2, 5, true},
		{six(), 0, 3, 3, true},
		{six(), 3, 4, 5, true},
		{six(), 5, 5, 5, true},
		{upsideDown(), 1, 2, 0, true},
		{upsideDown(), 3, 3, 3, true},
		{of("10", "01"), 0, 1, 0, false},
		{twoTops, 0, 1, 0, false},
		{twoTops, 2, 3, 0, false},
		{twoTops, 0, 2, 2, true},
		{overBoth, 0, 1, 0, false}, // 4 is above both, and so are 2 and 3, which aren't above 4
		{overBoth, 2, 3, 4, true},
	} {
		for _, p := range [][2]int{{c.a, c.b}, {c.b, c.a}} {
			if got, ok := Join(c.l, p[0], p[1]); got != c.want || ok != c.ok {
				t.Errorf("join of %v in %s: %d, %v", p, text(c.l), got, ok)
			}
		}
	}
}

func TestChain(t *testing.T) { // P1.2
	for n, want := range map[int]int{
		math.MinInt: 1, -1: 1, 0: 1, 1: 1, 2: 2, 3: 3, 5: 5,
		api.MaxLevels: api.MaxLevels, api.MaxLevels + 1: api.MaxLevels, math.MaxInt: api.MaxLevels,
	} {
		c := Chain(n)
		if len(c.Dom) != want || Check(c) != api.OK {
			t.Errorf("chain of %d: %s", n, text(c))
		}
		for a := range want {
			for b := range want {
				if Dom(c, a, b) != (a >= b) || Above(c, a, b) != (a > b) {
					t.Errorf("chain of %d: %d, %d", n, a, b)
				}
			}
		}
	}
}

// relations hands over each square of n rows there is, lattice or not.
func relations(n int, f func(l api.Lattice)) {
	for bits := range 1 << (n * n) {
		var l api.Lattice
		for a := range n {
			row := make([]bool, n)
			for b := range n {
				row[b] = bits>>(a*n+b)&1 == 1
			}
			l.Dom = append(l.Dom, row)
		}
		f(l)
	}
}

// isOrder tells by the words of P1.1 whether a square is a lattice.
func isOrder(l api.Lattice) bool {
	n := len(l.Dom)
	ok := true
	for a := range n {
		ok = ok && l.Dom[a][a]
		for b := range n {
			ok = ok && (a == b || !l.Dom[a][b] || !l.Dom[b][a])
			for c := range n {
				ok = ok && (!l.Dom[a][b] || !l.Dom[b][c] || l.Dom[a][c])
			}
		}
	}
	return ok
}

// leastOrder tells the first one, word by word, of all orders of the levels in which each is behind all below it.
func leastOrder(l api.Lattice, head []int) []int {
	if len(head) == len(l.Dom) {
		return head
	}
next:
	for a := range l.Dom {
		if slices.Contains(head, a) {
			continue
		}
		for b := range l.Dom {
			if a != b && l.Dom[a][b] && !slices.Contains(head, b) {
				continue next
			}
		}
		if whole := leastOrder(l, append(slices.Clone(head), a)); whole != nil {
			return whole
		}
	}
	return nil
}

// bounds tells the levels that are Dom of both and of which all others like that are Dom.
func bounds(l api.Lattice, a, b int) []int {
	var both, least []int
	for c := range l.Dom {
		if l.Dom[c][a] && l.Dom[c][b] {
			both = append(both, c)
		}
	}
	for _, c := range both {
		if !slices.ContainsFunc(both, func(d int) bool { return !l.Dom[d][c] }) {
			least = append(least, c)
		}
	}
	return least
}

func TestAllSmallSquares(t *testing.T) { // P1.1, P1.2, P1.3
	lattices := []int{}
	for n := 1; n <= 4; n++ {
		found := 0
		relations(n, func(l api.Lattice) {
			if !isOrder(l) {
				if Check(l) != api.ErrLattice {
					t.Fatalf("%s is no lattice: %v", text(l), Check(l))
				}
				return
			}
			found++
			if Check(l) != api.OK || Levels(l) != n {
				t.Fatalf("%s is a lattice: %v, %d", text(l), Check(l), Levels(l))
			}
			if got, want := Order(l), leastOrder(l, nil); !slices.Equal(got, want) {
				t.Fatalf("order of %s: %v, not %v", text(l), got, want)
			}
			for a := range n {
				checkLevel(t, l, a)
			}
		})
		lattices = append(lattices, found)
	}
	if !slices.Equal(lattices, []int{1, 3, 19, 219}) {
		t.Errorf("lattices of one to four levels: %v", lattices)
	}
}

// checkLevel holds all that is told of a level, alone and with another one, against the words of the promises.
func checkLevel(t *testing.T, l api.Lattice, a int) {
	var below, covers []int
	for b := range l.Dom {
		if Dom(l, a, b) != l.Dom[a][b] || Above(l, a, b) != (l.Dom[a][b] && a != b) {
			t.Fatalf("%s: %d, %d: %v, %v", text(l), a, b, Dom(l, a, b), Above(l, a, b))
		}
		if l.Dom[a][b] && a != b {
			below = append(below, b)
		}
		want := bounds(l, a, b)
		j, ok := Join(l, a, b)
		if ok != (len(want) == 1) || ok && j != want[0] || !ok && j != 0 {
			t.Fatalf("%s: join of %d, %d: %d, %v, not %v", text(l), a, b, j, ok, want)
		}
	}
	for _, b := range below {
		if !slices.ContainsFunc(below, func(c int) bool { return c != b && l.Dom[c][b] }) {
			covers = append(covers, b)
		}
	}
	if !slices.Equal(Below(l, a), below) || !slices.Equal(Covers(l, a), covers) {
		t.Fatalf("%s: below %d: %v, covers %v", text(l), a, Below(l, a), Covers(l, a))
	}
}

func TestArgumentsStayAsTheyAre(t *testing.T) { // P1.3, with rule 3 of what holds everywhere
	l := api.Lattice{Dom: make([][]bool, 0, 8)}
	for _, row := range six().Dom {
		wide := append(make([]bool, 0, 16), row...)
		l.Dom = append(l.Dom, wide)
	}
	spare := l.Dom[:8]
	spare[6], spare[7] = []bool{true}, []bool{true}
	for _, row := range l.Dom {
		for i := 6; i < 16; i++ {
			row[:16][i] = i%2 == 0
		}
	}
	Check(l)
	Order(l)
	for a := range 6 {
		Below(l, a)
		Covers(l, a)
		Join(l, a, 1)
	}
	if text(l) != text(six()) || len(spare[6]) != 1 || len(spare[7]) != 1 {
		t.Errorf("changed: %s", text(l))
	}
	for a, row := range l.Dom {
		for i := 6; i < 16; i++ {
			if row[:16][i] != (i%2 == 0) {
				t.Errorf("the spare room of row %d was changed", a)
			}
		}
	}
}

func TestAnswersAreNewMemory(t *testing.T) { // P1.3, with rule 3 of what holds everywhere
	l := six()
	for name, ask := range map[string]func() []int{
		"Below":  func() []int { return Below(l, 5) },
		"Covers": func() []int { return Covers(l, 5) },
		"Order":  func() []int { return Order(l) },
	} {
		first, second := ask(), ask()
		want := slices.Clone(second)
		spoilt := first[:cap(first)]
		for i := range spoilt {
			spoilt[i] = -7
		}
		if !slices.Equal(second, want) || !slices.Equal(ask(), want) {
			t.Errorf("%s: one answer touches another one", name)
		}
	}
	c, other := Chain(6), Chain(6)
	want := text(other)
	for a, row := range c.Dom {
		kept := text(api.Lattice{Dom: slices.Delete(slices.Clone(c.Dom), a, a+1)})
		spoilt := append(row, true, true, true)
		for i := range spoilt {
			spoilt[i] = !spoilt[i]
		}
		whole := row[:cap(row)]
		for i := range whole {
			whole[i] = true
		}
		if text(api.Lattice{Dom: slices.Delete(slices.Clone(c.Dom), a, a+1)}) != kept {
			t.Errorf("row %d of a chain shares its memory with another one", a)
		}
	}
	if text(other) != want || text(Chain(6)) != want {
		t.Error("one chain touches another one")
	}
}

func TestAnswersFollowTheArgument(t *testing.T) { // P1.3: nothing is kept from call to call
	l := Chain(2)
	if !Above(l, 1, 0) || len(Below(l, 1)) != 1 {
		t.Error("1 isn't above 0")
	}
	l.Dom[1][0] = false
	if Above(l, 1, 0) || len(Below(l, 1)) != 0 {
		t.Error("1 is still above 0")
	}
	l.Dom[0][1] = true
	if !Above(l, 0, 1) || !slices.Equal(Order(l), []int{1, 0}) {
		t.Error("0 isn't above 1")
	}
	l.Dom[1][0] = true
	if Check(l) != api.ErrLattice || Above(l, 0, 1) {
		t.Error("two are of one another")
	}
}
