package merge

import (
	"fmt"
	"math"
	"slices"
	"strings"
	"testing"

	"ravelin/api"
	"ravelin/entry"
)

// putOf tells an entry with a Value.
func putOf(key string, seq int, value string) api.Entry {
	return api.Entry{Key: key, Seq: seq, Value: value}
}

// delOf tells an entry with Del.
func delOf(key string, seq int) api.Entry { return api.Entry{Key: key, Seq: seq, Del: true} }

// inOrder puts entries in order.
func inOrder(l []api.Entry) []api.Entry {
	slices.SortFunc(l, func(a, b api.Entry) int {
		switch {
		case a.Key != b.Key:
			return strings.Compare(a.Key, b.Key)
		case a.Seq > b.Seq:
			return -1
		case a.Seq < b.Seq:
			return 1
		}
		return 0
	})
	return l
}

// rowsOf works out Rows by the words of P11.1.
func rowsOf(rows [][]api.Entry) ([]api.Entry, api.Errno) {
	var all []api.Entry
	for _, row := range rows {
		if !entry.Sorted(row) {
			return nil, api.ErrOrder
		}
		for _, e := range row {
			if !slices.ContainsFunc(all, func(x api.Entry) bool { return x.Key == e.Key && x.Seq == e.Seq }) {
				all = append(all, e)
			}
		}
	}
	return inOrder(all), api.OK
}

// keysOf tells the Keys of entries, each once, in the order in which they come.
func keysOf(l []api.Entry) []string {
	var keys []string
	for _, e := range l {
		if !slices.Contains(keys, e.Key) {
			keys = append(keys, e.Key)
		}
	}
	return keys
}

// visibleOf works out Visible by the words of P11.1.
func visibleOf(l []api.Entry, seq int) []api.Entry {
	if !entry.Sorted(l) {
		return nil
	}
	var visible []api.Entry
	for _, key := range keysOf(l) {
		first := slices.IndexFunc(l, func(e api.Entry) bool { return e.Key == key && !(e.Seq > seq) })
		if first >= 0 && !l[first].Del {
			visible = append(visible, l[first])
		}
	}
	return visible
}

// packOf works out Pack by the words of P11.2.
func packOf(l []api.Entry, held []int, bottom bool) []api.Entry {
	if !entry.Sorted(l) {
		return nil
	}
	for _, e := range l {
		if !entry.Is(e) {
			return nil
		}
	}
	var packed []api.Entry
	for _, key := range keysOf(l) {
		newest := map[api.Entry]int{}
		for _, seq := range append(slices.Clone(held), api.MaxSeq) {
			if e, ok := entry.Newest(l, key, seq); ok {
				newest[e]++
			}
		}
		var some []api.Entry
		for _, e := range l {
			if newest[e] > 0 {
				some = append(some, e)
			}
		}
		for bottom && len(some) > 0 && some[len(some)-1].Del {
			some = some[:len(some)-1]
		}
		packed = append(packed, some...)
	}
	return packed
}

// holdRows compares Rows to what it should tell.
func holdRows(t *testing.T, rows [][]api.Entry) {
	t.Helper()
	want, wantErr := rowsOf(rows)
	if l, err := Rows(rows); !slices.Equal(l, want) || err != wantErr {
		t.Fatalf("%v: %v, %v, want %v, %v", rows, l, err, want, wantErr)
	}
}

// holdVisible compares Visible to what it should tell.
func holdVisible(t *testing.T, l []api.Entry, seq int) {
	t.Helper()
	if got, want := Visible(l, seq), visibleOf(l, seq); !slices.Equal(got, want) {
		t.Fatalf("%v up to %d: %v, want %v", l, seq, got, want)
	}
}

// holdPack compares Pack to what it should tell.
func holdPack(t *testing.T, l []api.Entry, held []int, bottom bool) {
	t.Helper()
	if got, want := Pack(l, held, bottom), packOf(l, held, bottom); !slices.Equal(got, want) {
		t.Fatalf("%v, held %v, bottom %v: %v, want %v", l, held, bottom, got, want)
	}
}

// eachRow tells all rows in order that have of each Key and Seq none, one with Value, or one with Del.
func eachRow(keys []string, most int, value string, tell func([]api.Entry)) {
	var from func(row []api.Entry, k, seq int)
	from = func(row []api.Entry, k, seq int) {
		switch {
		case k == len(keys):
			tell(row)
		case seq == 0:
			from(row, k+1, most)
		default:
			from(row, k, seq-1)
			from(append(slices.Clone(row), putOf(keys[k], seq, value)), k, seq-1)
			from(append(slices.Clone(row), delOf(keys[k], seq)), k, seq-1)
		}
	}
	from(nil, 0, most)
}

// row is a row of numbers that are far from one another, the same ones each time.
type row uint64

// next tells a number from 0 to n-1.
func (r *row) next(n int) int {
	*r = *r*6364136223846793005 + 1442695040888963407
	return int(uint64(*r) >> 33 % uint64(n))
}

// entries tells as many entries in order at most, those of one Key and Seq once.
func (r *row) entries(many int) []api.Entry {
	var l []api.Entry
	for range many {
		e := putOf(string(rune('a'+r.next(5))), 1+r.next(9), fmt.Sprint(r.next(1000)))
		if r.next(3) == 0 {
			e = delOf(e.Key, e.Seq)
		}
		l = append(l, e)
	}
	return slices.CompactFunc(inOrder(l), func(a, b api.Entry) bool { return a.Key == b.Key && a.Seq == b.Seq })
}

// spoilt tells rows that aren't in order.
func spoilt() [][]api.Entry {
	return [][]api.Entry{
		{putOf("b", 1, ""), putOf("a", 1, "")},
		{putOf("a", 1, ""), putOf("a", 2, "")},
		{putOf("a", 1, "x"), putOf("a", 1, "x")},
		{putOf("a", 1, "x"), delOf("a", 1)},
		{putOf("a", 9, ""), putOf("b", 1, ""), putOf("c", 1, ""), putOf("bb", 1, "")},
	}
}

func TestExample(t *testing.T) { // the chapter's
	l := []api.Entry{putOf("a", 3, "x"), putOf("a", 2, "y"), putOf("a", 1, "z")}
	if got := Pack(l, []int{2}, false); !slices.Equal(got, l[:2]) {
		t.Errorf("%v", got)
	}
}

func TestRows(t *testing.T) { // P11.1
	a := []api.Entry{putOf("a", 3, "x"), delOf("b", 5), putOf("b", 1, "y")}
	b := []api.Entry{delOf("a", 7), putOf("b", 5, "other"), putOf("b", 2, "z"), putOf("c", 1, "")}
	c := []api.Entry{putOf("", 0, ""), putOf("b", 5, "third"), putOf("c", 1, "third")}
	for name, x := range map[string]struct {
		rows [][]api.Entry
		want []api.Entry
	}{
		"no row":                  {nil, nil},
		"rows without anything":   {[][]api.Entry{nil, {}, nil}, nil},
		"one row":                 {[][]api.Entry{a}, a},
		"one row and none":        {[][]api.Entry{nil, a, {}}, a},
		"two rows":                {[][]api.Entry{a, b}, []api.Entry{b[0], a[0], a[1], b[2], a[2], b[3]}},
		"the other one first":     {[][]api.Entry{b, a}, []api.Entry{b[0], a[0], b[1], b[2], a[2], b[3]}},
		"three rows":              {[][]api.Entry{a, b, c}, []api.Entry{c[0], b[0], a[0], a[1], b[2], a[2], b[3]}},
		"the last one first":      {[][]api.Entry{c, b, a}, []api.Entry{c[0], b[0], a[0], c[1], b[2], a[2], c[2]}},
		"a row several times":     {[][]api.Entry{a, a, a}, a},
		"one behind the other":    {[][]api.Entry{a[:1], a[1:]}, a},
		"one ahead of the other":  {[][]api.Entry{a[1:], a[:1]}, a},
		"one within the other":    {[][]api.Entry{{b[0], b[3]}, b[1:3]}, b},
		"Del behind a Value":      {[][]api.Entry{{putOf("k", 1, "v")}, {delOf("k", 1)}}, []api.Entry{putOf("k", 1, "v")}},
		"a Value behind Del":      {[][]api.Entry{{delOf("k", 1)}, {putOf("k", 1, "v")}}, []api.Entry{delOf("k", 1)}},
		"Keys that begin alike":   {[][]api.Entry{{putOf("aa", 1, "")}, {putOf("a", 1, ""), putOf("a\x00", 1, "")}, {putOf("a\xff", 1, "")}}, []api.Entry{putOf("a", 1, ""), putOf("a\x00", 1, ""), putOf("aa", 1, ""), putOf("a\xff", 1, "")}},
		"what isn't an entry too": {[][]api.Entry{{putOf("", math.MaxInt, ""), putOf("", -1, "")}, {putOf("", 0, ""), {Key: "", Seq: math.MinInt, Del: true, Value: "x"}}}, []api.Entry{putOf("", math.MaxInt, ""), putOf("", 0, ""), putOf("", -1, ""), {Key: "", Seq: math.MinInt, Del: true, Value: "x"}}},
	} {
		if l, err := Rows(x.rows); !slices.Equal(l, x.want) || err != api.OK {
			t.Errorf("%s: %v, %v, want %v", name, l, err, x.want)
		}
		holdRows(t, x.rows)
	}
}

func TestRowsOfUnsorted(t *testing.T) { // P11.1: one is enough, wherever it is
	good := []api.Entry{putOf("a", 3, "x"), delOf("b", 5)}
	for _, bad := range spoilt() {
		for _, rows := range [][][]api.Entry{{bad}, {bad, good}, {good, bad}, {nil, good, bad, good}, {good, nil, bad}, {bad, bad}} {
			if l, err := Rows(rows); len(l) > 0 || err != api.ErrOrder {
				t.Errorf("%v: %v, %v", rows, l, err)
			}
		}
	}
}

func TestRowsOfAllShortRows(t *testing.T) { // P11.1
	var all [2][][]api.Entry
	for i, value := range []string{"first", "second"} {
		eachRow([]string{"a", "b"}, 2, value, func(l []api.Entry) { all[i] = append(all[i], l) })
	}
	for _, first := range all[0] {
		for i, second := range all[1] {
			holdRows(t, [][]api.Entry{first, second})
			if i%9 == 4 {
				holdRows(t, [][]api.Entry{second, nil, first, all[1][80-i], all[0][i]})
			}
		}
	}
}

func TestRowsOfLongRows(t *testing.T) { // P11.1: however many, of whatever length
	r := row(1)
	for many := range 40 {
		var rows [][]api.Entry
		for range many {
			rows = append(rows, r.entries(r.next(12)))
		}
		holdRows(t, rows)
		holdRows(t, slices.Insert(rows, r.next(many+1), spoilt()[many%5]))
	}
}

func TestRowsOfVeryMany(t *testing.T) { // P11.1: many rows of one, few rows of many
	const many = 1 << 17
	var want []api.Entry
	for i := range many {
		want = append(want, putOf(fmt.Sprintf("%06d", i/4), many-i, "x"))
	}
	var short, long [][]api.Entry
	for i := range want {
		short = append(short, []api.Entry{want[i*5%many]})
	}
	for i := range 4 {
		var l []api.Entry
		for k := i; k < many; k += 1 + i {
			l = append(l, want[k])
		}
		long = append(long, l)
	}
	for _, rows := range [][][]api.Entry{short, long} {
		if l, err := Rows(rows); !slices.Equal(l, want) || err != api.OK {
			t.Errorf("%d rows: %d entries, %v", len(rows), len(l), err)
		}
	}
}

func TestVisible(t *testing.T) { // P11.1
	l := []api.Entry{delOf("a", 7), putOf("a", 3, "x"), putOf("b", 5, "y"), delOf("b", 4), putOf("b", 2, ""), putOf("c", api.MaxSeq, "z")}
	for seq, want := range map[int][]api.Entry{
		math.MinInt: nil, -1: nil, 0: nil, 1: nil,
		2: {l[4]}, 3: {l[1], l[4]}, 4: {l[1]}, 5: {l[1], l[2]}, 6: {l[1], l[2]}, 7: {l[2]},
		api.MaxSeq - 1: {l[2]}, api.MaxSeq: {l[2], l[5]}, api.MaxSeq + 1: {l[2], l[5]}, math.MaxInt: {l[2], l[5]},
	} {
		if got := Visible(l, seq); !slices.Equal(got, want) {
			t.Errorf("up to %d: %v, want %v", seq, got, want)
		}
	}
	for _, none := range append(spoilt(), nil, []api.Entry{}) {
		if got := Visible(none, 9); len(got) > 0 {
			t.Errorf("%v: %v", none, got)
		}
	}
}

func TestVisibleOfWhatIsNot(t *testing.T) { // P11.1: it asks that they are Sorted, not that each one Is
	l := []api.Entry{putOf("", 2, "x"), putOf("", 0, "y"), {Key: "", Seq: -3, Del: true, Value: "z"}, putOf("", math.MinInt, ""), putOf(strings.Repeat("k", 30), math.MaxInt, strings.Repeat("v", 30))}
	for _, e := range l {
		for _, seq := range []int{e.Seq - 1, e.Seq, e.Seq + 1} { // at the ends these go round
			holdVisible(t, l, seq)
		}
	}
	if got := Visible(l, 1); !slices.Equal(got, l[1:2]) {
		t.Errorf("%v", got)
	}
}

func TestVisibleOfAllShortRows(t *testing.T) { // P11.1
	eachRow([]string{"a", "ab"}, 3, "v", func(l []api.Entry) {
		for seq := -1; seq < 5; seq++ {
			holdVisible(t, l, seq)
		}
	})
}

func TestPack(t *testing.T) { // P11.2
	l := []api.Entry{putOf("a", 9, "x"), delOf("a", 5), putOf("a", 3, "y"), delOf("a", 1), delOf("b", 8), putOf("b", 2, "z"), delOf("c", 7), delOf("c", 6), delOf("c", 4)}
	for name, x := range map[string]struct {
		held         []int
		want, bottom []int // of l: with bottom false, with bottom true
	}{
		"nothing is held":       {nil, []int{0, 4, 6}, []int{0}},
		"5":                     {[]int{5}, []int{0, 1, 4, 5, 6, 8}, []int{0, 4, 5}},
		"right above one":       {[]int{4}, []int{0, 2, 4, 5, 6, 8}, []int{0, 2, 4, 5}},
		"below all of a Key":    {[]int{2}, []int{0, 3, 4, 5, 6}, []int{0, 4, 5}},
		"out of order, twice":   {[]int{3, 1, 3}, []int{0, 2, 3, 4, 5, 6}, []int{0, 2, 4, 5}},
		"Del in between":        {[]int{6, 4}, []int{0, 1, 2, 4, 5, 6, 7, 8}, []int{0, 1, 2, 4, 5}},
		"two see the same":      {[]int{3, 4}, []int{0, 2, 4, 5, 6, 8}, []int{0, 2, 4, 5}},
		"0 and below":           {[]int{0, -4, math.MinInt}, []int{0, 4, 6}, []int{0}},
		"the newest":            {[]int{9, api.MaxSeq}, []int{0, 4, 6}, []int{0}},
		"above all":             {[]int{api.MaxSeq + 1, math.MaxInt}, []int{0, 4, 6}, []int{0}},
		"above all, and others": {[]int{math.MaxInt, 5, math.MinInt}, []int{0, 1, 4, 5, 6, 8}, []int{0, 4, 5}},
		"all":                   {[]int{1, 2, 3, 4, 5, 6, 7, 8, 9}, []int{0, 1, 2, 3, 4, 5, 6, 7, 8}, []int{0, 1, 2, 4, 5}},
	} {
		for _, bottom := range []bool{false, true} {
			at := x.want
			if bottom {
				at = x.bottom
			}
			var want []api.Entry
			for _, i := range at {
				want = append(want, l[i])
			}
			if got := Pack(l, x.held, bottom); !slices.Equal(got, want) {
				t.Errorf("%s, bottom %v: %v, want %v", name, bottom, got, want)
			}
			holdPack(t, l, x.held, bottom)
		}
	}
}

func TestPackAtTheEdges(t *testing.T) { // P11.2: the least and the greatest of all that Is
	l := []api.Entry{putOf("\x00", api.MaxSeq, strings.Repeat("v", api.MaxValue)), putOf("\x00", api.MaxSeq-1, ""), delOf("\x00", 1), putOf(strings.Repeat("k", api.MaxKey+1), api.MaxSeq, "")}
	for _, held := range [][]int{nil, {api.MaxSeq}, {api.MaxSeq - 1}, {api.MaxSeq - 2}, {1}, {0}, {math.MaxInt}} {
		holdPack(t, l, held, false)
		holdPack(t, l, held, true)
	}
	if got := Pack(l, []int{1, api.MaxSeq - 1}, false); !slices.Equal(got, l) {
		t.Errorf("%v", got)
	}
}

func TestPackOfNone(t *testing.T) { // P11.2: not Sorted, or one isn't entry's Is, wherever it is
	wrong := append(spoilt(), nil, []api.Entry{})
	for _, e := range []api.Entry{{}, putOf("", 1, "x"), putOf("m", 0, ""), putOf("m", -1, ""), putOf("m", api.MaxSeq+1, ""), putOf(strings.Repeat("m", api.MaxKey+2), 1, ""), putOf("m", 1, strings.Repeat("v", api.MaxValue+1)), {Key: "m", Seq: 1, Del: true, Value: "x"}} {
		wrong = append(wrong, []api.Entry{e}, inOrder([]api.Entry{e, putOf("a", 1, "x"), putOf("z", 1, "x")}), inOrder([]api.Entry{e, putOf("z", 1, "x")}), inOrder([]api.Entry{putOf("a", 1, "x"), e}))
	}
	for _, l := range wrong {
		for _, held := range [][]int{nil, {1}, {0, 5, math.MaxInt}} {
			if got := Pack(l, held, false); len(got) > 0 {
				t.Errorf("%v: %v", l, got)
			}
			if got := Pack(l, held, true); len(got) > 0 {
				t.Errorf("%v, bottom: %v", l, got)
			}
		}
	}
}

func TestPackOfAllShortRows(t *testing.T) { // P11.2
	eachRow([]string{"a", "ab"}, 3, "v", func(l []api.Entry) {
		for some := range 1 << 5 {
			var held []int
			for seq := 4; seq >= 0; seq-- {
				if some>>seq&1 == 1 {
					held = append(held, seq)
				}
			}
			holdPack(t, l, held, false)
			holdPack(t, l, held, true)
		}
	})
}

func TestWhoeverLooksSeesTheSame(t *testing.T) { // P11.3: behind a Pack, behind several, and with rows that lie above what was packed
	r := row(3)
	for range 2000 {
		l := r.entries(30)
		held := []int{r.next(12), r.next(12), -1 + r.next(3)}
		packed := Pack(l, held, r.next(2) == 0)
		again := Pack(packed, held, r.next(2) == 0)
		for _, seq := range append(held, 9, api.MaxSeq, math.MaxInt) {
			want := visibleOf(l, seq)
			if got := Visible(packed, seq); !slices.Equal(got, want) {
				t.Fatalf("%v, held %v, up to %d: %v, want %v", l, held, seq, got, want)
			}
			if got := Visible(again, seq); !slices.Equal(got, want) {
				t.Fatalf("%v, held %v, packed twice, up to %d: %v, want %v", l, held, seq, got, want)
			}
		}
		newer := r.entries(5)
		for i := range newer {
			newer[i].Seq += 20
		}
		whole, _ := Rows([][]api.Entry{newer, l})
		laid, _ := Rows([][]api.Entry{newer, packed})
		for _, seq := range append(held, 9, 25, api.MaxSeq) {
			if got, want := Visible(laid, seq), Visible(whole, seq); !slices.Equal(got, want) {
				t.Fatalf("%v on %v, held %v, up to %d: %v, want %v", newer, l, held, seq, got, want)
			}
		}
	}
}

func TestManyOfOneKey(t *testing.T) { // P11.2: a long row, as many that look
	const many = 1 << 17
	var l, want []api.Entry
	var held []int
	for seq := many; seq > 0; seq-- {
		e := putOf("key", seq, "")
		l = append(l, e)
		if seq%2 == 1 {
			held = append(held, seq)
		}
		if seq%2 == 1 || seq == many {
			want = append(want, e)
		}
	}
	if got := Pack(l, held, true); !slices.Equal(got, want) {
		t.Errorf("%d of %d", len(got), len(want))
	}
	if got := Visible(l, 1); !slices.Equal(got, l[many-1:]) {
		t.Errorf("%v", got)
	}
}

// roomy tells a list with spare room behind it, and the room with it.
func roomy[E any](l []E, spare E) ([]E, []E) {
	whole := append(slices.Clone(l), spare, spare, spare)
	return whole[:len(l):len(whole)], whole
}

func TestLeavesWhatIsHandedIn(t *testing.T) { // neither it nor the room behind it is changed
	spare := putOf("spare", 7, "")
	a, wholeA := roomy([]api.Entry{putOf("a", 3, "x"), delOf("b", 5), delOf("b", 2)}, spare)
	b, wholeB := roomy([]api.Entry{putOf("a", 3, "y"), putOf("c", 1, "")}, spare)
	rows, wholeRows := roomy([][]api.Entry{a, b}, []api.Entry{spare})
	held, wholeHeld := roomy([]int{9, 2, 5, 2}, -7)
	wantA, wantB, wantHeld := slices.Clone(wholeA), slices.Clone(wholeB), slices.Clone(wholeHeld)
	Rows(rows)
	Rows(rows[:1])
	Visible(a, 4)
	Pack(a, held, false)
	Pack(a, held, true)
	Pack(b, held[:0], true)
	if !slices.Equal(wholeA, wantA) || !slices.Equal(wholeB, wantB) || !slices.Equal(wholeHeld, wantHeld) {
		t.Errorf("%v, %v, %v", wholeA, wholeB, wholeHeld)
	}
	if &wholeRows[0][0] != &a[0] || &wholeRows[1][0] != &b[0] || len(wholeRows[2]) != 1 || wholeRows[2][0] != spare {
		t.Errorf("%v", wholeRows)
	}
}

func TestTellsNewLists(t *testing.T) { // no answer is touched by what is done with another one, its spare room too, nor what was handed in
	l := []api.Entry{putOf("a", 3, "x"), putOf("a", 2, "y"), delOf("a", 1), putOf("b", 5, "z"), delOf("b", 4)}
	asks := map[string]func() []api.Entry{
		"one row":   func() []api.Entry { got, _ := Rows([][]api.Entry{l}); return got },
		"with none": func() []api.Entry { got, _ := Rows([][]api.Entry{nil, l}); return got },
		"twice":     func() []api.Entry { got, _ := Rows([][]api.Entry{l, l}); return got },
		"halves":    func() []api.Entry { got, _ := Rows([][]api.Entry{l[3:], l[:3]}); return got },
		"visible":   func() []api.Entry { return Visible(l, 5) },
		"packed":    func() []api.Entry { return Pack(l, []int{1, 2, 3, 4}, false) },
		"bottom":    func() []api.Entry { return Pack(l, []int{1, 2, 3, 4}, true) },
	}
	kept := slices.Clone(l)
	for name, ask := range asks {
		one, two := ask(), ask()
		want := slices.Clone(one)
		full := two[:cap(two)]
		for i := range full {
			full[i] = putOf("spoilt", 1, "")
		}
		_ = append(two[:1], delOf("spoilt", 2))
		if !slices.Equal(one, want) || !slices.Equal(ask(), want) || !slices.Equal(l, kept) {
			t.Errorf("%s: %v, %v, want %v", name, one, ask(), want)
		}
	}
}
