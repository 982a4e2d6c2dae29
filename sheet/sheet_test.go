package sheet

import (
	"bytes"
	"encoding/binary"
	"fmt"
	"hash/adler32"
	"math"
	"math/rand"
	"slices"
	"sort"
	"strings"
	"testing"

	"ravelin/api"
)

// tab tells a table.
func tab(id, tier int, first, end string) api.Table {
	return api.Table{ID: id, Tier: tier, First: first, End: end, Count: 3}
}

// come tells an edit by which tables come.
func come(l ...api.Table) api.Edit { return api.Edit{Come: l} }

// gone tells an edit by which tables go.
func gone(ids ...int) api.Edit { return api.Edit{Gone: ids} }

// tables tells that many tables of tier 0, from this ID on.
func tables(from, many int) []api.Table {
	var l []api.Table
	for i := range many {
		l = append(l, tab(from+i, 0, "a", "b"))
	}
	return l
}

// paper is a sheet by the words of P13.1 and P13.2: tables in whatever order.
type paper struct {
	tables         []api.Table
	log, seq, next int
}

// newPaper works out New by the words of P13.1.
func newPaper() paper { return paper{log: 1, next: 1} }

// isEditOf tells by the words of P13.1 whether an edit isn't ErrForm.
func isEditOf(e api.Edit) bool {
	good := len(e.Gone) <= 40 && len(e.Come) <= 40 && e.Log >= 0 && e.Log <= 1000000 && e.Seq >= 0 && e.Seq <= 1000000
	least := 1
	for _, t := range e.Come {
		good = good && least <= t.ID && t.ID <= 1000000 && (t.Tier == 0 || t.Tier == 1) && t.Count > 0
		good = good && 1 <= len(t.First) && len(t.First) <= 13 && 1 <= len(t.End) && len(t.End) <= 13
		good = good && bytes.Compare([]byte(t.First), []byte(t.End)) <= 0
		least = t.ID + 1
	}
	return good
}

// do works out Do by the words of P13.1: the sheet behind it (where it errs: any), and the error.
func (p paper) do(e api.Edit) (paper, api.Errno) {
	if !isEditOf(e) {
		return p, api.ErrForm
	}
	left := map[int]api.Table{}
	for _, t := range p.tables {
		left[t.ID] = t
	}
	for _, id := range e.Gone {
		if _, ok := left[id]; !ok {
			return p, api.ErrNone
		}
	}
	for _, id := range e.Gone {
		delete(left, id)
	}
	past := e.Log > 0 && e.Log < p.log || e.Seq > 0 && e.Seq < p.seq
	next := p.next
	for _, t := range e.Come {
		past = past || t.ID < p.next
		left[t.ID] = t
		next = max(next, t.ID+1)
	}
	p.tables = nil
	for _, t := range left {
		p.tables = append(p.tables, t)
	}
	sort.Slice(p.tables, func(i, j int) bool { return p.tables[i].ID < p.tables[j].ID }) // so that a script is the same each time
	if past || p.meet() {
		return p, api.ErrOrder
	}
	if len(p.tables) > 40 {
		return p, api.ErrMany
	}
	p.next = next
	if e.Log > 0 {
		p.log = e.Log
	}
	if e.Seq > 0 {
		p.seq = e.Seq
	}
	return p, api.OK
}

// meet tells whether two tables of tier 1 meet.
func (p paper) meet() bool {
	for _, a := range p.tables {
		for _, b := range p.tables {
			if a.ID != b.ID && a.Tier == 1 && b.Tier == 1 && a.First <= b.End && b.First <= a.End {
				return true
			}
		}
	}
	return false
}

// tier works out Tier by the words of P13.2.
func (p paper) tier(tier int) []api.Table {
	var l []api.Table
	for _, t := range p.tables {
		if t.Tier == tier {
			l = append(l, t)
		}
	}
	sort.Slice(l, func(i, j int) bool {
		if tier == 0 {
			return l[i].ID > l[j].ID
		}
		return l[i].First < l[j].First
	})
	return l
}

// hold holds all that a sheet tells against the words.
func (p paper) hold(t *testing.T, s *Sheet, what string) {
	t.Helper()
	if got, want := s.Tables(), append(p.tier(0), p.tier(1)...); !slices.Equal(got, want) {
		t.Errorf("%s: %v, not %v", what, got, want)
	}
	for tier := -1; tier <= 2; tier++ {
		if got, want := s.Tier(tier), p.tier(tier); !slices.Equal(got, want) {
			t.Errorf("%s: tier %d: %v, not %v", what, tier, got, want)
		}
	}
	if s.Log() != p.log || s.Seq() != p.seq || s.Next() != p.next {
		t.Errorf("%s: %d, %d, %d, not %d, %d, %d", what, s.Log(), s.Seq(), s.Next(), p.log, p.seq, p.next)
	}
}

// holdDo does an edit on a sheet and on the paper that is like it, and holds both against one another.
func (p paper) holdDo(t *testing.T, s *Sheet, e api.Edit) paper {
	t.Helper()
	was, ids, l := s.Copy(), slices.Clone(e.Gone), slices.Clone(e.Come)
	behind, want := p.do(e)
	if want != api.OK {
		behind = p
	}
	if got := s.Do(e); got != want {
		t.Errorf("%v on %v: %v, not %v", e, was.Tables(), got, want)
	}
	behind.hold(t, s, fmt.Sprint(e))
	p.hold(t, was, "what was copied")
	if !slices.Equal(e.Gone, ids) || !slices.Equal(e.Come, l) {
		t.Errorf("%v, %v, not %v, %v any more", e.Gone, e.Come, ids, l)
	}
	return behind
}

// number tells a number as a cell.
func number(n int) string {
	digits := bytes.TrimLeft(binary.BigEndian.AppendUint64(nil, uint64(n)), "\x00")
	return string([]byte{byte(len(digits))}) + string(digits)
}

// text tells a text as a cell.
func text(s string) string { return number(len(s)) + s }

// sealOf seals a text.
func sealOf(s string) string {
	return number(len(s)) + string(binary.BigEndian.AppendUint32(nil, adler32.Checksum([]byte(s)))) + s
}

// row lays a table out, whether it is one or not (no number of it below 0).
func row(t api.Table) string {
	return number(t.ID) + number(t.Tier) + text(t.First) + text(t.End) + number(t.Count)
}

// layOf lays an edit out, not sealed, whether it is one or not (no number of it below 0).
func layOf(e api.Edit) string {
	l := []string{number(len(e.Gone))}
	for _, id := range e.Gone {
		l = append(l, number(id))
	}
	l = append(l, number(len(e.Come)))
	for _, t := range e.Come {
		l = append(l, row(t))
	}
	return strings.Join(append(l, number(e.Log), number(e.Seq)), "")
}

// bytesOf tells Bytes of an edit that is one.
func bytesOf(t *testing.T, e api.Edit) string {
	t.Helper()
	s, err := Bytes(e)
	if err != api.OK || s == "" || len(s) > 8000 {
		t.Fatalf("%v: %d bytes, %v", e, len(s), err)
	}
	return s
}

// largest tells the edit with the longest bytes.
func largest() api.Edit {
	e := api.Edit{Log: 1000000, Seq: 1000000}
	for i := range 40 {
		key := strings.Repeat("k", 12) + string([]byte{byte('A' + i)})
		e.Gone = append(e.Gone, math.MaxInt)
		e.Come = append(e.Come, api.Table{ID: 999961 + i, Tier: 1, First: key, End: key, Count: math.MaxInt})
	}
	return e
}

// examples tells edits that can be done one behind the other.
func examples() []api.Edit {
	return []api.Edit{
		{Log: 2},
		{Come: []api.Table{tab(1, 0, "a", "c"), tab(4, 1, "b", "d"), tab(300, 0, "\x00", "\xff\xff")}, Seq: 5},
		{},
		{Gone: []int{1, 300}, Come: []api.Table{tab(301, 1, "e", "f"), {ID: 302, Tier: 1, First: "a", End: "aa", Count: math.MaxInt}}, Log: 3, Seq: 65536},
		{Gone: []int{4}},
		{Log: 1000000, Seq: 1000000},
	}
}

// bad tells edits that are none, each by one thing.
func bad() map[string]api.Edit {
	l := map[string]api.Edit{
		"one too many of Gone":          {Gone: make([]int, 41)},
		"far too many of Gone":          {Gone: make([]int, 1<<20)},
		"one too many of Come":          come(tables(10, 41)...),
		"far too many of Come":          come(tables(10, 100000)...),
		"one ID twice":                  come(tab(10, 0, "a", "b"), tab(10, 0, "c", "d")),
		"IDs that fall":                 come(tab(11, 0, "a", "b"), tab(10, 0, "a", "b")),
		"IDs that fall at the end":      come(tab(11, 0, "a", "b"), tab(12, 0, "a", "b"), tab(10, 0, "a", "b")),
		"IDs that fall, above the last": come(tab(13, 0, "a", "b"), tab(11, 0, "a", "b"), tab(12, 0, "a", "b")),
	}
	for _, n := range []int{math.MinInt, -1000000, -2, -1, 1000001, 1000002, 1 << 32, 1<<32 + 5, math.MaxInt} {
		l[fmt.Sprint("Log ", n)] = api.Edit{Log: n}
		l[fmt.Sprint("Seq ", n)] = api.Edit{Seq: n}
		l[fmt.Sprint("ID ", n)] = come(tab(n, 0, "a", "b"))
	}
	l["ID 0"] = come(tab(0, 0, "a", "b"))
	for _, n := range []int{math.MinInt, -1, 2, 3, 256, 1 << 32, 1<<32 + 1, math.MaxInt} {
		l[fmt.Sprint("Tier ", n)] = come(tab(10, n, "a", "b"))
	}
	for _, n := range []int{math.MinInt, -1, 0} {
		l[fmt.Sprint("Count ", n)] = come(api.Table{ID: 10, First: "a", End: "b", Count: n})
	}
	for name, ends := range map[string][2]string{
		"First above End":              {"b", "a"},
		"First longer than End":        {"a\x00", "a"},
		"First above End by its sign":  {"\x80", "\x7f"},
		"First above End by its rune":  {"\xff", "á"},
		"no First":                     {"", "a"},
		"no End":                       {"a", ""},
		"neither":                      {"", ""},
		"a First of 14 bytes":          {strings.Repeat("a", 14), "b"},
		"an End of 14 bytes":           {"a", strings.Repeat("b", 14)},
		"an End of 14 bytes, 7 runes":  {"a", strings.Repeat("á", 7)},
		"both of 14 bytes":             {strings.Repeat("a", 14), strings.Repeat("a", 14)},
		"a First of very many bytes":   {strings.Repeat("a", 1<<20), "b"},
		"an End of very many bytes":    {"a", strings.Repeat("b", 1<<20)},
		"an End of 2^8 bytes, and one": {"a", strings.Repeat("b", 257)},
	} {
		l[name] = come(tab(10, 0, ends[0], ends[1]))
		l[name+", behind another one"] = come(tab(9, 0, "a", "b"), tab(10, 1, ends[0], ends[1]))
	}
	return l
}

// good tells edits that can be done on a new sheet, at the edges.
func good() []api.Edit {
	l := append(examples()[:3], come(tables(1, 40)...), come(tables(999961, 40)...), come(tab(1, 0, "a", "a")), come(tab(1000000, 1, "a", "a")))
	for _, n := range []int{0, 1, 2, 255, 256, 999999, 1000000} {
		l = append(l, api.Edit{Log: n}, api.Edit{Seq: n}, api.Edit{Log: n, Seq: 1000000 - n})
	}
	for _, ends := range [][2]string{{"a", "a"}, {"\x00", "\xff"}, {"a", "a\x00"}, {strings.Repeat("a", 13), strings.Repeat("b", 13)}, {strings.Repeat("\xff", 12), strings.Repeat("\xff", 13)}, {"\x7f", "\x80"}, {"á", "\xff"}} {
		l = append(l, come(tab(7, 0, ends[0], ends[1])), come(tab(7, 1, ends[0], ends[1])))
	}
	for _, n := range []int{1, 2, 1 << 32, math.MaxInt} {
		l = append(l, come(api.Table{ID: 1, First: "a", End: "b", Count: n}))
	}
	return l
}

func TestNew(t *testing.T) { // P13.1
	s := New()
	newPaper().hold(t, s, "new")
	if len(s.Tables()) != 0 || s.Log() != 1 || s.Seq() != 0 || s.Next() != 1 {
		t.Errorf("%v, %d, %d, %d", s.Tables(), s.Log(), s.Seq(), s.Next())
	}
	if s.Do(come(tab(1, 0, "a", "b"))) != api.OK || s.Next() != 2 {
		t.Errorf("the chapter's example: %d", s.Next())
	}
	newPaper().hold(t, New(), "another one")
}

func TestDoOfWhatIsNoEdit(t *testing.T) { // P13.1: ErrForm, whatever else applies
	for name, e := range bad() {
		for _, also := range []api.Edit{{}, gone(9), {Log: 1}, {Seq: 1}} {
			s := New()
			p := newPaper().holdDo(t, s, api.Edit{Come: []api.Table{tab(2, 0, "a", "b"), tab(3, 1, "a", "b")}, Log: 2, Seq: 2})
			if len(e.Gone) == 0 {
				e.Gone = also.Gone
			}
			if e.Log == 0 && e.Seq == 0 {
				e.Log, e.Seq = also.Log, also.Seq
			}
			if err := s.Do(e); err != api.ErrForm {
				t.Errorf("%s: %v", name, err)
			}
			p.holdDo(t, s, e)
		}
	}
}

func TestDoOfGoodEdits(t *testing.T) { // P13.1
	for i, e := range good() {
		s := New()
		if err := s.Do(e); err != api.OK {
			t.Errorf("%d: %v", i, err)
		}
		newPaper().holdDo(t, New(), e)
	}
}

func TestDo(t *testing.T) { // P13.1: on a sheet of tables 2 (tier 0), 4 and 5 (tier 1), Log 3, Seq 7
	start := api.Edit{Come: []api.Table{tab(2, 0, "a", "m"), tab(4, 1, "c", "e"), tab(5, 1, "g", "i")}, Log: 3, Seq: 7}
	for name, c := range map[string]struct {
		e    api.Edit
		want api.Errno
	}{
		"nothing":                            {api.Edit{}, api.OK},
		"one goes":                           {gone(4), api.OK},
		"all go, in any order":               {gone(5, 2, 4), api.OK},
		"one goes twice":                     {gone(4, 4), api.OK},
		"one goes, as often as may be":       {gone(slices.Repeat([]int{4}, 40)...), api.OK},
		"one that isn't there goes":          {gone(3), api.ErrNone},
		"one below all goes":                 {gone(0), api.ErrNone},
		"one below 0 goes":                   {gone(-4), api.ErrNone},
		"the least int goes":                 {gone(math.MinInt), api.ErrNone},
		"the greatest int goes":              {gone(math.MaxInt), api.ErrNone},
		"the last of some isn't there":       {gone(2, 4, 6), api.ErrNone},
		"one that comes goes":                {api.Edit{Gone: []int{6}, Come: tables(6, 1)}, api.ErrNone},
		"none there, ahead of an old ID":     {api.Edit{Gone: []int{9}, Come: tables(5, 1)}, api.ErrNone},
		"none there, ahead of an old Log":    {api.Edit{Gone: []int{9}, Log: 2}, api.ErrNone},
		"none there, ahead of an old Seq":    {api.Edit{Gone: []int{9}, Seq: 6}, api.ErrNone},
		"none there, ahead of a meeting":     {api.Edit{Gone: []int{9}, Come: []api.Table{tab(6, 1, "a", "z")}}, api.ErrNone},
		"none there, ahead of too many":      {api.Edit{Gone: []int{9}, Come: tables(6, 40)}, api.ErrNone},
		"the next ID":                        {come(tab(6, 0, "a", "z")), api.OK},
		"a later ID":                         {come(tab(600, 0, "a", "z")), api.OK},
		"the greatest ID":                    {come(tab(1000000, 0, "a", "z")), api.OK},
		"an ID that is there":                {come(tab(5, 0, "a", "z")), api.ErrOrder},
		"an ID that isn't there any more":    {api.Edit{Gone: []int{5}, Come: tables(5, 1)}, api.ErrOrder},
		"an ID that never was":               {come(tab(3, 0, "a", "z")), api.ErrOrder},
		"an old ID and the next":             {come(tab(5, 0, "a", "z"), tab(6, 0, "a", "z")), api.ErrOrder},
		"that Log":                           {api.Edit{Log: 3}, api.OK},
		"a later Log":                        {api.Edit{Log: 4}, api.OK},
		"an old Log":                         {api.Edit{Log: 2}, api.ErrOrder},
		"that Seq":                           {api.Edit{Seq: 7}, api.OK},
		"a later Seq":                        {api.Edit{Seq: 8}, api.OK},
		"an old Seq":                         {api.Edit{Seq: 6}, api.ErrOrder},
		"an old Log, a later Seq":            {api.Edit{Log: 1, Seq: 8}, api.ErrOrder},
		"a later Log, an old Seq":            {api.Edit{Log: 4, Seq: 1}, api.ErrOrder},
		"between two":                        {come(tab(6, 1, "ea", "f")), api.OK},
		"ahead of all":                       {come(tab(6, 1, "a", "bz")), api.OK},
		"behind all":                         {come(tab(6, 1, "i\x00", "z")), api.OK},
		"meets by its First":                 {come(tab(6, 1, "e", "f")), api.ErrOrder},
		"meets by its End":                   {come(tab(6, 1, "f", "g")), api.ErrOrder},
		"meets the first by its End":         {come(tab(6, 1, "a", "c")), api.ErrOrder},
		"meets the last by its First":        {come(tab(6, 1, "i", "z")), api.ErrOrder},
		"within one":                         {come(tab(6, 1, "d", "d")), api.ErrOrder},
		"around one":                         {come(tab(6, 1, "f", "j")), api.ErrOrder},
		"around all":                         {come(tab(6, 1, "a", "z")), api.ErrOrder},
		"around all, of tier 0":              {come(tab(6, 0, "a", "z")), api.OK},
		"alike":                              {come(tab(6, 1, "c", "e")), api.ErrOrder},
		"alike, of tier 0":                   {come(tab(6, 0, "a", "m")), api.OK},
		"in place of one":                    {api.Edit{Gone: []int{4}, Come: []api.Table{tab(6, 1, "b", "f")}}, api.OK},
		"in place of one, meets another":     {api.Edit{Gone: []int{4}, Come: []api.Table{tab(6, 1, "c", "g")}}, api.ErrOrder},
		"in place of both":                   {api.Edit{Gone: []int{5, 4}, Come: []api.Table{tab(6, 1, "a", "z")}}, api.OK},
		"meets only one of tier 0 that goes": {api.Edit{Gone: []int{2}, Come: []api.Table{tab(6, 1, "j", "k")}}, api.OK},
		"two that come meet":                 {come(tab(6, 1, "k", "m"), tab(7, 1, "m", "n")), api.ErrOrder},
		"two that come meet, the other way":  {come(tab(6, 1, "m", "n"), tab(7, 1, "k", "m")), api.ErrOrder},
		"two that come, apart":               {come(tab(6, 1, "m", "n"), tab(7, 1, "k", "l")), api.OK},
		"the first meets the third":          {come(tab(6, 1, "k", "z"), tab(7, 1, "a", "b"), tab(8, 1, "p", "q")), api.ErrOrder},
		"two of tier 0 that come meet":       {come(tab(6, 0, "k", "m"), tab(7, 0, "k", "m")), api.OK},
		"as many as there may be":            {come(tables(6, 37)...), api.OK},
		"one more":                           {come(tables(6, 38)...), api.ErrMany},
		"all that may come":                  {come(tables(6, 40)...), api.ErrMany},
		"one more, and one goes":             {api.Edit{Gone: []int{2}, Come: tables(6, 38)}, api.OK},
		"one more, and one goes twice":       {api.Edit{Gone: []int{2, 2}, Come: tables(6, 39)}, api.ErrMany},
		"all that may come, and all go":      {api.Edit{Gone: []int{2, 4, 5}, Come: tables(6, 40)}, api.OK},
		"an old ID, ahead of too many":       {come(tables(5, 40)...), api.ErrOrder},
		"an old Log, ahead of too many":      {api.Edit{Come: tables(6, 40), Log: 2}, api.ErrOrder},
		"an old Seq, ahead of too many":      {api.Edit{Come: tables(6, 40), Seq: 2}, api.ErrOrder},
		"a meeting, ahead of too many":       {come(append(tables(6, 39), tab(50, 1, "d", "d"))...), api.ErrOrder},
		"all at once":                        {api.Edit{Gone: []int{2, 4}, Come: []api.Table{tab(9, 0, "x", "y"), tab(11, 1, "a", "b")}, Log: 1000000, Seq: 1000000}, api.OK},
	} {
		s := New()
		p := newPaper().holdDo(t, s, start)
		if err := s.Copy().Do(c.e); err != c.want {
			t.Errorf("%s: %v, not %v", name, err, c.want)
		}
		p = p.holdDo(t, s, c.e)
		p.holdDo(t, s, come(tab(max(p.next, 6), 0, "b", "c"))) // and it goes on from there
	}
}

func TestNext(t *testing.T) { // P13.1: behind the greatest ID none comes, whatever goes
	s := New()
	p := newPaper().holdDo(t, s, come(tab(999999, 0, "a", "b")))
	p = p.holdDo(t, s, gone(999999))
	if s.Next() != 1000000 {
		t.Errorf("%d", s.Next())
	}
	p = p.holdDo(t, s, come(tab(1000000, 0, "a", "b")))
	p = p.holdDo(t, s, gone(1000000))
	if s.Next() != 1000001 || len(s.Tables()) != 0 {
		t.Errorf("%d, %v", s.Next(), s.Tables())
	}
	for _, e := range []api.Edit{come(tab(1, 0, "a", "b")), come(tab(1000000, 0, "a", "b"))} {
		if err := s.Do(e); err != api.ErrOrder {
			t.Errorf("%v: %v", e, err)
		}
	}
	p.holdDo(t, s, come(tab(1000001, 0, "a", "b")))
	p.holdDo(t, s, api.Edit{Log: 1000000, Seq: 1000000})
}

func TestMany(t *testing.T) { // P13.1: one by one, then as some go
	s, p := New(), newPaper()
	for id := 1; id <= 42; id++ {
		p = p.holdDo(t, s, come(tab(id, 0, "a", "b")))
	}
	if len(s.Tables()) != 40 || s.Next() != 41 || s.Do(come(tab(41, 1, "a", "b"))) != api.ErrMany {
		t.Errorf("%d tables, %d", len(s.Tables()), s.Next())
	}
	p = p.holdDo(t, s, gone(7))
	p = p.holdDo(t, s, come(tables(41, 2)...))
	p = p.holdDo(t, s, come(tables(41, 1)...))
	p = p.holdDo(t, s, come(tables(42, 1)...))
	p.holdDo(t, s, api.Edit{Gone: []int{1, 41}, Come: tables(50, 2)})
}

func TestMeeting(t *testing.T) { // P13.1: all threes of tables between a few keys, one on the sheet, two that come
	var spans [][2]string
	keys := []string{"a", "aa", "b", "c", "d", "e"}
	for i := range keys {
		for j := i; j < len(keys); j++ {
			spans = append(spans, [2]string{keys[i], keys[j]})
		}
	}
	for _, a := range spans {
		for _, b := range spans {
			for _, c := range spans {
				s := New()
				p := newPaper().holdDo(t, s, come(tab(1, 1, a[0], a[1]), tab(2, 0, "a", "e")))
				p = p.holdDo(t, s, come(tab(3, 1, b[0], b[1]), tab(4, 1, c[0], c[1])))
				p.holdDo(t, s, api.Edit{Gone: []int{1}, Come: []api.Table{tab(5, 1, c[0], b[0])}})
			}
		}
	}
}

func TestAllShortScripts(t *testing.T) { // P13.1, P13.2: of these edits, up to 4 of them, in any order
	some := []api.Edit{
		{}, gone(1), gone(3, 1), come(tab(1, 0, "a", "b")), come(tab(2, 1, "a", "b"), tab(3, 1, "c", "d")), come(tab(3, 0, "b", "b"), tab(4, 1, "b", "c")),
		{Gone: []int{2}, Come: []api.Table{tab(5, 1, "a", "bb")}, Log: 2}, {Log: 3, Seq: 2}, {Seq: 1}, {Log: -1}, {Come: []api.Table{tab(6, 1, "x", "y")}, Seq: 3},
	}
	var hold func(s *Sheet, p paper, left int)
	hold = func(s *Sheet, p paper, left int) {
		for _, e := range some {
			next := s.Copy()
			if behind := p.holdDo(t, next, e); left > 1 {
				hold(next, behind, left-1)
			}
		}
	}
	hold(New(), newPaper(), 4)
}

// anyEdit tells an edit, mostly one that can be done on such a sheet.
func anyEdit(r *rand.Rand, p paper) api.Edit {
	var e api.Edit
	for range r.Intn(4) {
		if r.Intn(20) == 0 {
			e.Gone = append(e.Gone, r.Intn(p.next+2)-1)
		} else if len(p.tables) > 0 {
			e.Gone = append(e.Gone, p.tables[r.Intn(len(p.tables))].ID)
		}
	}
	id := max(1, p.next-r.Intn(30)/29)
	for range r.Intn(7) {
		ends := []string{anyKey(r), anyKey(r)}
		if r.Intn(60) > 0 {
			slices.Sort(ends)
		}
		tier := r.Intn(3) / 2
		if tier == 1 && r.Intn(4) > 0 {
			ends[1] = ends[0]
		}
		e.Come = append(e.Come, api.Table{ID: id, Tier: tier, First: ends[0], End: ends[1], Count: 1 + r.Intn(300)})
		id += r.Intn(40) - r.Intn(40)/39
	}
	if r.Intn(3) == 0 {
		e.Log = p.log + r.Intn(5) - r.Intn(12)/11
		e.Seq = p.seq + r.Intn(50) - r.Intn(12)/11
	}
	return e
}

// anyKey tells a short text.
func anyKey(r *rand.Rand) string {
	b := make([]byte, 1+r.Intn(3))
	for i := range b {
		b[i] = byte('a' + r.Intn(26))
	}
	return string(b)
}

func TestLongScripts(t *testing.T) { // P13.1 to P13.4: sheets, and what is read of the bytes of all that was done
	told := map[api.Errno]int{}
	for seed := range 60 {
		r := rand.New(rand.NewSource(int64(seed)))
		s, p, all := New(), newPaper(), ""
		for range 300 {
			e := anyEdit(r, p)
			_, err := p.do(e)
			told[err]++
			p = p.holdDo(t, s, e)
			undone := ""
			switch err {
			case api.OK:
				all += bytesOf(t, e)
			case api.ErrForm: // it has no bytes
			default:
				undone = bytesOf(t, e)
			}
			if r.Intn(8) > 0 {
				continue
			}
			read, took, err := Read(all + undone)
			if took != len(all) || (err == api.OK) != (all != "") {
				t.Errorf("seed %d: %d of %d, %v", seed, took, len(all), err)
			}
			p.hold(t, read, "what was read")
		}
	}
	for _, err := range []api.Errno{api.OK, api.ErrForm, api.ErrNone, api.ErrOrder, api.ErrMany} {
		if told[err] < 500 {
			t.Errorf("%v only %d times", err, told[err])
		}
	}
}

func TestTables(t *testing.T) { // P13.2
	s := New()
	if s.Do(come(tab(1, 1, "m", "n"), tab(2, 0, "z", "z"), tab(3, 1, "a", "a"), tab(10, 0, "a", "a"), tab(11, 1, "\xff", "\xff"), tab(12, 1, "a\x00", "l"), tab(200, 0, "m", "m"))) != api.OK {
		t.Fatal("not done")
	}
	zero := []api.Table{tab(200, 0, "m", "m"), tab(10, 0, "a", "a"), tab(2, 0, "z", "z")}
	one := []api.Table{tab(3, 1, "a", "a"), tab(12, 1, "a\x00", "l"), tab(1, 1, "m", "n"), tab(11, 1, "\xff", "\xff")}
	if got := s.Tables(); !slices.Equal(got, append(slices.Clone(zero), one...)) {
		t.Errorf("%v", got)
	}
	if got := s.Tier(0); !slices.Equal(got, zero) {
		t.Errorf("tier 0: %v", got)
	}
	if got := s.Tier(1); !slices.Equal(got, one) {
		t.Errorf("tier 1: %v", got)
	}
	for _, tier := range []int{math.MinInt, -1, 2, 3, 256, 1 << 32, 1<<32 + 1, math.MaxInt} {
		if got := s.Tier(tier); len(got) != 0 {
			t.Errorf("tier %d: %v", tier, got)
		}
	}
}

func TestCopy(t *testing.T) { // P13.2: what is done with one isn't seen in the other
	s := New()
	p := newPaper().holdDo(t, s, examples()[0])
	p = p.holdDo(t, s, examples()[1])
	a, b := s.Copy(), s.Copy()
	p.hold(t, a, "a copy")
	behind := p.holdDo(t, a, examples()[3])
	p.hold(t, s, "what was copied")
	p.hold(t, b, "another copy")
	other := p.holdDo(t, s, api.Edit{Gone: []int{300}, Come: tables(301, 38), Log: 9, Seq: 9})
	behind.hold(t, a, "a copy")
	p.hold(t, b, "another copy")
	c := a.Copy()
	a.Do(gone(4, 301))
	behind.hold(t, c, "a copy's copy")
	other.hold(t, s, "what was copied")
	newPaper().hold(t, New().Copy(), "a new one's copy")
}

func TestBytesErrs(t *testing.T) { // P13.3: just where Do tells ErrForm
	for name, e := range bad() {
		if s, err := Bytes(e); s != "" || err != api.ErrForm {
			t.Errorf("%s: %d bytes, %v", name, len(s), err)
		}
	}
	for i, e := range append(good(), append(examples(), largest(), gone(0), gone(-1, math.MinInt), gone(make([]int, 40)...))...) {
		s := bytesOf(t, e)
		if again := bytesOf(t, e); s != again {
			t.Errorf("%d: %q, then %q", i, s, again)
		}
	}
}

func TestBytesAreRead(t *testing.T) { // P13.3: on a sheet on which it can be done
	for i, e := range good() {
		p, _ := newPaper().do(e)
		s := bytesOf(t, e)
		for _, behind := range []string{"", "\x00", "\xff", "behind", sealOf("x"), sealOf("")} {
			read, took, err := Read(s + behind)
			if took != len(s) || err != api.OK {
				t.Errorf("%d, %q behind: %d of %d, %v", i, behind, took, len(s), err)
			}
			p.hold(t, read, "what was read")
		}
	}
}

func TestLargest(t *testing.T) { // P13.3: the longest bytes, whatever goes
	if s := bytesOf(t, largest()); s != sealOf(layOf(largest())) {
		t.Errorf("%d bytes", len(s))
	}
	e := largest()
	first := bytesOf(t, come(tables(1, 40)...))
	for i := range e.Gone {
		e.Gone[i] = i + 1
	}
	s, took, err := Read(first + bytesOf(t, e))
	if err != api.OK || took != len(first+bytesOf(t, e)) || !slices.Equal(s.Tables(), e.Come) || s.Log() != 1000000 || s.Seq() != 1000000 || s.Next() != 1000001 {
		t.Errorf("%d, %v, %d, %d, %d", took, err, s.Log(), s.Seq(), s.Next())
	}
}

func TestGoneThatNeverWas(t *testing.T) { // P13.3: its bytes are there, and are never done
	first := bytesOf(t, come(tab(1, 0, "a", "b"), tab(255, 0, "a", "b")))
	for _, id := range []int{math.MinInt, math.MinInt + 1, -256, -255, -1, 0, 2, 254, 256, 1000001, 1 << 32, 1<<32 + 1, math.MaxInt} {
		for _, e := range []api.Edit{gone(id), gone(1, id), {Gone: []int{id}, Come: tables(300, 2), Log: 2, Seq: 2}} {
			s, took, err := Read(first + bytesOf(t, e) + bytesOf(t, gone(1)))
			if took != len(first) || err != api.OK || len(s.Tables()) != 2 || s.Next() != 256 {
				t.Errorf("%v: %d, %v, %v", e, took, err, s.Tables())
			}
		}
	}
}

func TestReadOfNone(t *testing.T) { // P13.3
	some := bytesOf(t, come(tab(1, 0, "a", "b")))
	for name, s := range map[string]string{
		"nothing":                 "",
		"a byte":                  "\x00",
		"spoilt":                  "\xff",
		"nothing sealed":          sealOf(""),
		"another text sealed":     sealOf("x"),
		"spoilt ahead":            "\xff" + some,
		"sealed twice":            sealOf(some),
		"one that can't be done":  bytesOf(t, gone(1)),
		"and then one that can":   bytesOf(t, gone(1)) + some,
		"none there":              bytesOf(t, gone(0)) + some,
		"two that meet":           bytesOf(t, come(tab(1, 1, "a", "b"), tab(2, 1, "b", "c"))) + some,
		"a text, one behind":      sealOf("x") + some,
		"the sum is another one":  some[:2] + "\x00\x00\x00\x00" + some[6:] + some,
		"very many bytes":         strings.Repeat("\x00", 1<<20),
		"a large one, ill-formed": sealOf(strings.Repeat("\x01", 1<<20)),
	} {
		read, took, err := Read(s)
		if read == nil || took != 0 || err != api.ErrForm {
			t.Fatalf("%s: %v, %d, %v", name, read, took, err)
		}
		newPaper().hold(t, read, name)
		newPaper().holdDo(t, read, come(tab(1, 0, "a", "b"))) // it is as a new one is
	}
}

func TestReadOfCutBytes(t *testing.T) { // P13.3: of a beginning of an edit's bytes nothing is read
	all, p := "", newPaper()
	for _, e := range examples() {
		s := bytesOf(t, e)
		for at := range s {
			for _, behind := range []string{"", strings.Repeat("\xff", 300)} {
				read, took, err := Read(all + s[:at] + behind)
				if took != len(all) || (err == api.OK) != (all != "") || err != api.OK && err != api.ErrForm {
					t.Errorf("%v, cut at %d: %d, not %d, %v", e, at, took, len(all), err)
				}
				p.hold(t, read, "cut")
			}
		}
		all += s
		p, _ = p.do(e)
	}
	read, took, err := Read(all)
	if took != len(all) || err != api.OK {
		t.Errorf("%d of %d, %v", took, len(all), err)
	}
	p.hold(t, read, "whole")
}

func TestReadOfChangedBytes(t *testing.T) { // P13.3: each byte turned to others: what is ahead of that edit is read
	for n := range examples() {
		ahead, p := "", newPaper()
		for _, e := range examples()[:n] {
			ahead += bytesOf(t, e)
			p, _ = p.do(e)
		}
		b := []byte(bytesOf(t, examples()[n]))
		for i, was := range b {
			for c := range 256 {
				if b[i] = byte(c); b[i] == was {
					continue
				}
				read, took, err := Read(ahead + string(b))
				if took != len(ahead) || (err == api.OK) != (n > 0) {
					t.Errorf("%d, byte %d changed to %d: %d, not %d, %v", n, i, c, took, len(ahead), err)
				}
				p.hold(t, read, "changed")
			}
			b[i] = was
		}
	}
}

func TestReadStops(t *testing.T) { // P13.3: at the first that can't be read, or done, whatever is behind it
	late := bytesOf(t, come(tab(900, 0, "a", "b")))
	for n := range len(examples()) + 1 {
		ahead, behind, p := "", late, newPaper()
		for i, e := range examples() {
			if i >= n {
				behind += bytesOf(t, e)
				continue
			}
			ahead += bytesOf(t, e)
			p, _ = p.do(e)
		}
		stops := []string{"\x00", sealOf("x"), late[:len(late)-1], late[:len(late)-1] + "\xff"}
		for _, e := range []api.Edit{gone(7), come(tab(800, 1, "a", "b"), tab(801, 1, "b", "c")), come(tables(1, 1)...), come(tables(800, 40)...), {Log: 1}, {Seq: 1}} {
			if _, err := p.do(e); err != api.OK {
				stops = append(stops, bytesOf(t, e))
			}
		}
		for i, stop := range stops {
			read, took, err := Read(ahead + stop + behind)
			if took != len(ahead) || (err == api.OK) != (n > 0) {
				t.Errorf("%d, stopped by %d: %d, not %d, %v", n, i, took, len(ahead), err)
			}
			p.hold(t, read, "stopped")
		}
	}
}

func TestReadOfWhatIsNot(t *testing.T) { // P13.3: sealed well, but as Bytes seals none
	ahead := bytesOf(t, come(tab(1, 0, "a", "b")))
	table := row(tab(2, 1, "c", "d"))
	for name, s := range map[string]string{
		"nothing":                    "",
		"Gone alone":                 "\x00",
		"Seq lacks":                  "\x00\x00\x01\x02",
		"a byte behind":              "\x00\x00\x00\x00\x00",
		"another edit behind":        "\x00\x00\x00\x00" + "\x00\x00\x00\x00",
		"a Gone that lacks":          "\x01\x02\x01\x01",
		"of Gone one too many":       "\x01\x29" + strings.Repeat("\x01\x01", 41) + "\x00\x00\x00",
		"of Gone one too many, less": "\x01\x29" + strings.Repeat("\x01\x01", 40) + "\x00\x00\x00",
		"of Gone the greatest int":   number(math.MaxInt) + "\x01\x01\x00\x00\x00",
		"of Gone no number":          "\x09\x00\x00\x00",
		"of Gone a 0 ahead":          "\x02\x00\x01\x01\x01\x00\x00\x00",
		"a Gone of no int":           "\x01\x01\x08\xff\xff\xff\xff\xff\xff\xff\xff\x00\x00\x00",
		"a Gone with a 0 ahead":      "\x01\x01\x02\x00\x01\x00\x00\x00",
		"a Come that lacks":          "\x00\x01\x01",
		"of Come one too many":       "\x00\x01\x29" + strings.Repeat(table, 41) + "\x00\x00",
		"of Come the greatest int":   "\x00" + number(math.MaxInt) + table + "\x00\x00",
		"of Come no number":          "\x00\xff" + table + "\x00\x00",
		"of Come a 0 ahead":          "\x00\x02\x00\x01" + table + "\x00\x00",
		"an ID with a 0 ahead":       "\x00\x01\x01" + "\x02\x00\x02" + table[2:] + "\x00\x00",
		"Log with a 0 ahead":         "\x00\x00\x01\x00\x00",
		"Log is no number":           "\x00\x00\xff\x00",
		"Seq with a 0 ahead":         "\x00\x00\x00\x02\x00\x01",
		"Seq is no int":              "\x00\x00\x00\x08\x80\x00\x00\x00\x00\x00\x00\x00",
	} {
		if read, took, err := Read(ahead + sealOf(s) + ahead); took != len(ahead) || err != api.OK || len(read.Tables()) != 1 || read.Log() != 1 {
			t.Errorf("%s: %d, %v", name, took, err)
		}
		if _, took, err := Read(sealOf(s)); took != 0 || err != api.ErrForm {
			t.Errorf("%s alone: %d, %v", name, took, err)
		}
	}
	for name, e := range bad() {
		if e.Log < 0 || e.Seq < 0 || slices.ContainsFunc(e.Come, func(x api.Table) bool { return min(x.ID, x.Tier, x.Count) < 0 }) {
			continue // it can't be laid out
		}
		if read, took, err := Read(ahead + sealOf(layOf(e))); took != len(ahead) || err != api.OK || len(read.Tables()) != 1 {
			t.Errorf("%s: %d, %v", name, took, err)
		}
	}
	if read, took, err := Read(ahead + sealOf("\x00\x01\x01"+table+"\x01\x02\x01\x09")); took != len(ahead)+len(table)+13 || err != api.OK || read.Log() != 2 || read.Seq() != 9 || len(read.Tables()) != 2 {
		t.Errorf("laid out well: %d, %v, %d, %d, %v", took, err, read.Log(), read.Seq(), read.Tables())
	}
}

func TestReadOfMany(t *testing.T) { // P13.3: as many edits as there are IDs
	var all strings.Builder
	for id := 1; id <= 200000; id++ {
		e := api.Edit{Come: []api.Table{tab(id, id%2, "k", "l")}, Log: id, Seq: id}
		if id > 2 {
			e.Gone = []int{id - 2}
		}
		all.WriteString(bytesOf(t, e))
	}
	s, took, err := Read(all.String())
	if took != all.Len() || err != api.OK || !slices.Equal(s.Tables(), []api.Table{tab(200000, 0, "k", "l"), tab(199999, 1, "k", "l")}) || s.Log() != 200000 || s.Seq() != 200000 || s.Next() != 200001 {
		t.Errorf("%d of %d, %v, %v", took, all.Len(), err, s.Tables())
	}
}

func TestWhatIsOnTheSheetIsThere(t *testing.T) { // P13.4: what came and didn't go, as it came, also behind Read
	all, s := "", New()
	there := map[int]api.Table{}
	for i, e := range examples() {
		if err := s.Do(e); err != api.OK {
			t.Fatalf("%d: %v", i, err)
		}
		for _, id := range e.Gone {
			delete(there, id)
		}
		for _, x := range e.Come {
			there[x.ID] = x
		}
		all += bytesOf(t, e)
		read, _, _ := Read(all)
		for name, told := range map[string][]api.Table{"done": s.Tables(), "read": read.Tables(), "copied": read.Copy().Tables()} {
			if len(told) != len(there) {
				t.Errorf("%d, %s: %v, not %v", i, name, told, there)
			}
			for _, x := range told {
				if there[x.ID] != x {
					t.Errorf("%d, %s: %v, not %v", i, name, x, there[x.ID])
				}
			}
		}
	}
}

func TestNothingHandedInIsChangedOrKept(t *testing.T) { // the room behind it too
	e := api.Edit{Gone: []int{3, 1, 3, 7, 7}, Come: append(tables(10, 3), tab(99, 7, "zz", "a"), api.Table{})}
	ids, l := slices.Clone(e.Gone), slices.Clone(e.Come)
	short := api.Edit{Gone: e.Gone[:3], Come: e.Come[:3]}
	s := New()
	p := newPaper().holdDo(t, s, come(tab(1, 0, "a", "b"), tab(3, 0, "a", "b")))
	bytesOf(t, short)
	p = p.holdDo(t, s, short)
	if !slices.Equal(e.Gone, ids) || !slices.Equal(e.Come, l) {
		t.Errorf("%v, %v, not %v, %v any more", e.Gone, e.Come, ids, l)
	}
	clear(e.Gone)
	clear(e.Come)
	p.hold(t, s, "what was handed in is cleared")
}

func TestAnswersAreNew(t *testing.T) { // no answer is touched by what is done with another one, nor is the sheet
	s, p := New(), newPaper()
	for _, e := range examples()[:2] {
		p = p.holdDo(t, s, e)
	}
	zero, one := p.tier(0), p.tier(1)
	all := slices.Concat(zero, one)
	told := [][]api.Table{s.Tables(), s.Tier(0), s.Tier(1), s.Tables(), s.Tier(0), s.Tier(1), s.Copy().Tables()}
	want := [][]api.Table{all, zero, one, all, zero, one, all}
	for i, l := range told {
		if !slices.Equal(l, want[i]) {
			t.Errorf("%d: %v, not %v", i, l, want[i])
		}
		clear(l[:cap(l)])
		p.hold(t, s, "an answer is cleared")
	}
	first, second := s.Tables(), s.Tables()
	p.holdDo(t, s, api.Edit{Gone: []int{1}, Come: tables(500, 9)})
	if !slices.Equal(first, all) || !slices.Equal(second, all) {
		t.Errorf("%v, %v, not %v any more", first, second, all)
	}
}
