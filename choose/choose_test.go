package choose

import (
	"bytes"
	"fmt"
	"math/rand"
	"slices"
	"strings"
	"testing"

	"ravelin/api"
	"ravelin/sheet"
)

// tab tells a table; its Count is of its ID, so that each field of an answer can be held.
func tab(id, tier int, first, end string) api.Table {
	return api.Table{ID: id, Tier: tier, First: first, End: end, Count: 100 + id}
}

// of tells a sheet of these tables, whose IDs rise.
func of(t *testing.T, l ...api.Table) *sheet.Sheet {
	t.Helper()
	s := sheet.New()
	if err := s.Do(api.Edit{Come: l, Log: 5, Seq: 9}); err != api.OK {
		t.Fatalf("%v: %v", l, err)
	}
	return s
}

// isLess tells whether a is below b, byte by byte.
func isLess(a, b string) bool { return bytes.Compare([]byte(a), []byte(b)) < 0 }

// pickOf works out Pick by the words of P14.1, of tables in the order of Tables.
func pickOf(l []api.Table) ([]api.Table, bool) {
	var zero []api.Table
	for _, t := range l {
		if t.Tier == 0 {
			zero = append(zero, t)
		}
	}
	if len(zero) < 2 {
		return nil, false
	}
	first := slices.MinFunc(zero, func(a, b api.Table) int { return bytes.Compare([]byte(a.First), []byte(b.First)) }).First
	end := slices.MaxFunc(zero, func(a, b api.Table) int { return bytes.Compare([]byte(a.End), []byte(b.End)) }).End
	var picked []api.Table
	for _, t := range l {
		apart := isLess(t.End, first) || isLess(end, t.First)
		if t.Tier == 0 || t.Tier == 1 && !apart {
			picked = append(picked, t)
		}
	}
	return picked, true
}

// coverOf works out Cover by the words of P14.2, of tables in the order of Tables.
func coverOf(l []api.Table, key string) []api.Table {
	var cover []api.Table
	for _, t := range l {
		above, below := isLess(key, t.First), isLess(t.End, key)
		if !above && !below {
			cover = append(cover, t)
		}
	}
	return cover
}

// betweenOf works out Between by the words of P14.2, of tables in the order of Tables.
func betweenOf(l []api.Table, from, to string) []api.Table {
	var between []api.Table
	for _, t := range l {
		notBelow, below := !isLess(t.End, from), isLess(t.First, to) || to == ""
		if notBelow && below {
			between = append(between, t)
		}
	}
	return between
}

// holdPick holds Pick against the words.
func holdPick(t *testing.T, s *sheet.Sheet) {
	t.Helper()
	got, ok := Pick(s)
	want, is := pickOf(s.Tables())
	if ok != is || !slices.Equal(got, want) {
		t.Errorf("P14.1: %v: %v, %v, not %v, %v", s.Tables(), got, ok, want, is)
	}
}

// holdKeys holds Cover and Between against the words, of all these keys.
func holdKeys(t *testing.T, s *sheet.Sheet, keys []string) {
	t.Helper()
	l := s.Tables()
	for _, from := range keys {
		if got, want := Cover(s, from), coverOf(l, from); !slices.Equal(got, want) {
			t.Errorf("P14.2: %v: Cover of %q: %v, not %v", l, from, got, want)
		}
		for _, to := range keys {
			if got, want := Between(s, from, to), betweenOf(l, from, to); !slices.Equal(got, want) {
				t.Errorf("P14.2: %v: Between %q and %q: %v, not %v", l, from, to, got, want)
			}
		}
	}
}

// hold holds all calls against the words, and that the sheet is as it was.
func hold(t *testing.T, s *sheet.Sheet, keys []string) {
	t.Helper()
	was := s.Copy()
	holdPick(t, s)
	holdKeys(t, s, keys)
	if !slices.Equal(s.Tables(), was.Tables()) || s.Log() != was.Log() || s.Seq() != was.Seq() || s.Next() != was.Next() {
		t.Errorf("%v, %d, %d, %d, not as it was", s.Tables(), s.Log(), s.Seq(), s.Next())
	}
}

// ids tells the IDs of tables.
func ids(l []api.Table) string {
	var s []string
	for _, t := range l {
		s = append(s, fmt.Sprint(t.ID))
	}
	return strings.Join(s, " ")
}

func TestPick(t *testing.T) { // P14.1, P14.3
	for name, c := range map[string]struct {
		l    []api.Table
		want string
		ok   bool
	}{
		"none":                                {nil, "", false},
		"one of tier 0":                       {[]api.Table{tab(1, 0, "a", "z")}, "", false},
		"one of tier 1":                       {[]api.Table{tab(1, 1, "a", "z")}, "", false},
		"one of tier 0, all of tier 1 meet":   {[]api.Table{tab(1, 0, "a", "z"), tab(2, 1, "a", "b"), tab(3, 1, "c", "d")}, "", false},
		"many of tier 1 alone":                {[]api.Table{tab(1, 1, "a", "b"), tab(2, 1, "c", "d"), tab(3, 1, "e", "f")}, "", false},
		"two of tier 0":                       {[]api.Table{tab(1, 0, "a", "b"), tab(2, 0, "c", "d")}, "2 1", true},
		"two that meet":                       {[]api.Table{tab(1, 0, "a", "c"), tab(2, 0, "b", "d")}, "2 1", true},
		"two that are alike":                  {[]api.Table{tab(1, 0, "a", "c"), tab(2, 0, "a", "c")}, "2 1", true},
		"three of tier 0":                     {[]api.Table{tab(1, 0, "c", "d"), tab(5, 0, "a", "a"), tab(9, 0, "x", "y")}, "9 5 1", true},
		"the greatest ID ahead, not by First": {[]api.Table{tab(1, 0, "x", "y"), tab(2, 0, "a", "b"), tab(3, 0, "m", "n")}, "3 2 1", true},
		"tier 1 by First, not by ID":          {[]api.Table{tab(1, 0, "a", "z"), tab(2, 0, "b", "c"), tab(3, 1, "p", "q"), tab(4, 1, "a", "b"), tab(5, 1, "g", "h")}, "2 1 4 5 3", true},
		"one whose End is the least First":    {[]api.Table{tab(1, 0, "d", "f"), tab(2, 0, "e", "k"), tab(3, 1, "a", "d")}, "2 1 3", true},
		"one that ends just ahead":            {[]api.Table{tab(1, 0, "d", "f"), tab(2, 0, "e", "k"), tab(3, 1, "a", "c\xff\xff")}, "2 1", true},
		"one whose First is the greatest End": {[]api.Table{tab(1, 0, "d", "k"), tab(2, 0, "e", "f"), tab(3, 1, "k", "z")}, "2 1 3", true},
		"one that begins just behind":         {[]api.Table{tab(1, 0, "d", "k"), tab(2, 0, "e", "f"), tab(3, 1, "k\x00", "z")}, "2 1", true},
		"one around all":                      {[]api.Table{tab(1, 0, "d", "k"), tab(2, 0, "e", "f"), tab(3, 1, "a", "z")}, "2 1 3", true},
		"one within":                          {[]api.Table{tab(1, 0, "d", "k"), tab(2, 0, "e", "f"), tab(3, 1, "i", "j")}, "2 1 3", true},
		"one between two, meeting neither":    {[]api.Table{tab(1, 0, "a", "b"), tab(2, 0, "y", "z"), tab(3, 1, "m", "n")}, "2 1 3", true},
		"those apart on both sides stay":      {[]api.Table{tab(1, 0, "h", "i"), tab(2, 0, "k", "l"), tab(3, 1, "a", "g"), tab(4, 1, "i", "j"), tab(5, 1, "m", "z")}, "2 1 4", true},
		"tier 1 asks for none of its like":    {[]api.Table{tab(1, 0, "d", "e"), tab(2, 0, "e", "f"), tab(3, 1, "f", "p"), tab(4, 1, "q", "r")}, "2 1 3", true},
		"keys as bytes, not as runes":         {[]api.Table{tab(1, 0, "\x7f", "\x80"), tab(2, 0, "\x7f", "\x7f"), tab(3, 1, "\xc3", "\xff"), tab(4, 1, "\x80", "\x81"), tab(5, 1, "~", "~")}, "2 1 4", true},
		"End of one, First of another":        {[]api.Table{tab(1, 0, "m", "z"), tab(2, 0, "a", "b"), tab(3, 1, "za", "zb"), tab(4, 1, "`", "`"), tab(5, 1, "c", "d")}, "2 1 5", true},
	} {
		s := of(t, c.l...)
		got, ok := Pick(s)
		if ids(got) != c.want || ok != c.ok {
			t.Errorf("P14.1: %s: %s, %v, not %s, %v", name, ids(got), ok, c.want, c.ok)
		}
		hold(t, s, []string{"", "a", "d", "k", "z"})
	}
}

func TestCover(t *testing.T) { // P14.2
	s := of(t, tab(1, 0, "c", "m"), tab(2, 1, "k", "k"), tab(3, 0, "cc", "d"), tab(4, 1, "a", "c"), tab(5, 0, "\xc3\xa1", "\xff"))
	for key, want := range map[string]string{
		"": "", "\x00": "", "`": "", "a": "4", "b": "4", "bz": "4", "c": "1 4", "c\x00": "1", "cb": "1", "cc": "3 1", "cc\x00": "3 1",
		"d": "3 1", "d\x00": "1", "j\xff": "1", "k": "1 2", "k\x00": "1", "m": "1", "m\x00": "", "\x7f": "", "\xc3": "", "á": "5", "\xff": "5",
		"\xff\x00": "", strings.Repeat("\xff", 14): "", strings.Repeat("c", 1<<16): "3 1", strings.Repeat("b", 14): "4",
	} {
		if got := ids(Cover(s, key)); got != want {
			t.Errorf("P14.2: %q: %s, not %s", key, got, want)
		}
	}
	if l := Cover(sheet.New(), "a"); len(l) != 0 {
		t.Errorf("P14.2: of none: %v", l)
	}
}

func TestBetween(t *testing.T) { // P14.2
	s := of(t, tab(1, 0, "c", "m"), tab(2, 1, "k", "k"), tab(3, 0, "cc", "d"), tab(4, 1, "a", "c"))
	for _, c := range []struct{ from, to, want string }{
		{"", "", "3 1 4 2"}, {"", "\x00", ""}, {"", "a", ""}, {"", "a\x00", "4"}, {"", "c", "4"}, {"", "c\x00", "1 4"}, {"", "cc", "1 4"},
		{"", "cc\x00", "3 1 4"}, {"", "k", "3 1 4"}, {"", "k\x00", "3 1 4 2"}, {"", "\xff", "3 1 4 2"}, {"c", "", "3 1 4 2"}, {"c\x00", "", "3 1 2"},
		{"d", "", "3 1 2"}, {"d\x00", "", "1 2"}, {"k", "", "1 2"}, {"k\x00", "", "1"}, {"m", "", "1"}, {"m\x00", "", ""}, {"\xff\xff", "", ""},
		{"c", "c\x00", "1 4"}, {"c\x00", "cc", "1"}, {"d", "e", "3 1"}, {"d\x00", "k", "1"}, {"k", "k\x00", "1 2"},
		{"c", "c", "4"}, {"k", "k", "1"}, {"e", "e", "1"}, {"d", "cd", "3 1"}, {"d", "cc", "1"}, {"m", "b", ""}, {"m", "d", "1"}, // nothing is between these two; the words ask of each by itself
		{strings.Repeat("a", 1<<16), strings.Repeat("c", 1<<16), "3 1 4"},
	} {
		if got := ids(Between(s, c.from, c.to)); got != c.want {
			t.Errorf("P14.2: %q to %q: %s, not %s", c.from, c.to, got, c.want)
		}
	}
	for _, to := range []string{"", "a", "\xff"} {
		if l := Between(sheet.New(), "", to); len(l) != 0 {
			t.Errorf("P14.2: of none up to %q: %v", to, l)
		}
	}
}

// short tells keys in their order, some just behind others.
func short() []string { return []string{"a", "a\x00", "b", "b\xff", "c"} }

// grow holds all sheets that begin with these tables and have up to more tables behind them.
func grow(t *testing.T, l []api.Table, more int) {
	s := sheet.New()
	if s.Do(api.Edit{Come: l}) != api.OK {
		return // two of tier 1 meet: neither this nor what begins with it is on a sheet
	}
	hold(t, s, append([]string{"", "`", "aa", "d"}, short()...))
	if more == 0 {
		return
	}
	for tier := range 2 {
		for i, first := range short() {
			for _, end := range short()[i:] {
				grow(t, append(slices.Clone(l), tab(1+len(l), tier, first, end)), more-1)
			}
		}
	}
}

func TestAllOfFewTables(t *testing.T) { // P14.1 to P14.3
	grow(t, nil, 3)
}

// anyKey tells a key of few different bytes, of 1 to 13 of them.
func anyKey(r *rand.Rand) string {
	key := make([]byte, 1+r.Intn(3)*r.Intn(7))
	for i := range key {
		key[i] = "\x00am\x7f\x80\xff"[r.Intn(6)]
	}
	return string(key)
}

// anyTables tells tables whose IDs rise and of which those of tier 1 are apart.
func anyTables(r *rand.Rand, most int) []api.Table {
	s := sheet.New()
	var l []api.Table
	for id := 1; len(l) < most && id < 4*most; id += 1 + r.Intn(3) {
		first, end := anyKey(r), anyKey(r)
		if isLess(end, first) {
			first, end = end, first
		}
		x := tab(id, r.Intn(2), first, end)
		if x.Tier == 1 && r.Intn(2) == 0 { // wide ones meet too soon
			x.End = first + strings.Repeat("\x00", min(r.Intn(3), 13-len(first)))
		}
		if s.Do(api.Edit{Come: []api.Table{x}}) == api.OK {
			l = append(l, x)
		}
	}
	return l
}

func TestManyTables(t *testing.T) { // P14.1 to P14.3: as many as a sheet has
	r := rand.New(rand.NewSource(14))
	for range 300 {
		l := anyTables(r, r.Intn(api.MaxTables+1))
		keys := []string{"", anyKey(r), anyKey(r) + "\xff", strings.Repeat("m", 20)}
		for _, x := range l[:min(len(l), 10)] {
			keys = append(keys, x.First, x.End, x.End+"\x00")
		}
		hold(t, of(t, l...), keys)
	}
}

func TestChangedSheets(t *testing.T) { // P14.1, P14.2: of what is on it now
	s := of(t, tab(1, 0, "a", "c"), tab(2, 0, "b", "d"), tab(3, 1, "d", "e"))
	keys := []string{"", "a", "b", "c", "d", "e", "f"}
	hold(t, s, keys)
	for _, e := range []api.Edit{
		{Gone: []int{1}},
		{Come: []api.Table{tab(4, 0, "e", "f"), tab(5, 1, "f", "g")}},
		{Gone: []int{2, 3, 4}, Come: []api.Table{tab(6, 1, "a", "e")}},
		{Come: []api.Table{tab(7, 0, "g", "g"), tab(9, 0, "h", "h")}},
	} {
		if err := s.Do(e); err != api.OK {
			t.Fatalf("%v: %v", e, err)
		}
		hold(t, s, keys)
	}
	picked, ok := Pick(s)
	edit := api.Edit{Come: []api.Table{tab(10, 1, "f", "h")}}
	for _, x := range picked {
		edit.Gone = append(edit.Gone, x.ID)
	}
	if err := s.Do(edit); !ok || err != api.OK { // what was picked can go for one table of tier 1
		t.Errorf("P14.1: %v, %v: %v", picked, ok, err)
	}
	if _, ok := Pick(s); ok {
		t.Errorf("P14.1: %v is picked again", s.Tables())
	}
}

func TestAnswersAreNew(t *testing.T) {
	l := []api.Table{tab(1, 0, "a", "c"), tab(2, 0, "b", "d"), tab(3, 1, "a", "b"), tab(4, 1, "c", "e"), tab(5, 1, "x", "z")}
	s := of(t, l...)
	for range 3 {
		first, _ := Pick(s)
		for _, answer := range [][]api.Table{first, Cover(s, "b"), Between(s, "a", "d"), Between(s, "", "")} {
			again, _ := Pick(s)
			want, _ := pickOf(s.Tables())
			clear(answer[:cap(answer)])
			if !slices.Equal(again, want) {
				t.Errorf("%v, not %v any more", again, want)
			}
		}
		hold(t, s, []string{"", "a", "b", "c", "d", "e", "z"})
		if !slices.Equal(s.Tables(), of(t, l...).Tables()) {
			t.Errorf("%v, not %v any more", s.Tables(), l)
		}
	}
}
