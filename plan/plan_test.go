package plan

import (
	"math"
	"slices"
	"strings"
	"testing"

	"ravelin/api"
	"ravelin/lattice"
)

// of tells a lattice by rows of noughts and ones.
func of(rows ...string) api.Lattice {
	var l api.Lattice
	for _, r := range rows {
		var row []bool
		for _, c := range r {
			row = append(row, c == '1')
		}
		l.Dom = append(l.Dom, row)
	}
	return l
}

// same tells whether two have the same rows.
func same(l, m api.Lattice) bool {
	return slices.EqualFunc(l.Dom, m.Dom, slices.Equal)
}

func TestNames(t *testing.T) { // P2.1
	for level, want := range []string{"a", "b", "c", "d", "e", "f"} {
		if got := Name(level); got != want {
			t.Errorf("name of %d: %q", level, got)
		}
		if got, ok := Level(want); got != level || !ok {
			t.Errorf("level of %s: %d, %v", want, got, ok)
		}
	}
	for _, level := range []int{-1, api.MaxLevels, -97, 256, 1 << 32, 1<<32 + 1, math.MinInt, math.MaxInt} {
		if got := Name(level); got != "" {
			t.Errorf("name of %d: %q", level, got)
		}
	}
}

func TestLevelOfAllShortTexts(t *testing.T) { // P2.1
	for c := range 256 {
		s := string([]byte{byte(c)})
		level, ok := Level(s)
		want := strings.Index("abcdef", s)
		if ok != (want >= 0) || level != max(want, 0) {
			t.Errorf("level of %q: %d, %v", s, level, ok)
		}
		for _, s := range []string{"a" + s, s + "a", s + s, "ab" + s} {
			if level, ok := Level(s); level != 0 || ok {
				t.Errorf("level of %q: %d, %v", s, level, ok)
			}
		}
	}
	for _, s := range []string{"", "abcdef", "fff", "á", "а", strings.Repeat("a", 100000)} {
		if level, ok := Level(s); level != 0 || ok {
			t.Errorf("level of %q: %d, %v", s, level, ok)
		}
	}
}

func TestPrint(t *testing.T) { // P2.1
	for want, l := range map[string]api.Lattice{
		"a>\n":                          of("1"),
		"a>\nb>a\n":                     lattice.Chain(2),
		"a>\nb>\n":                      of("10", "01"),
		"a>b\nb>\n":                     of("11", "01"),
		"a>\nb>a\nc>b\nd>c\ne>d\nf>e\n": lattice.Chain(6),
		"a>bc\nb>d\nc>d\nd>\n":          of("1111", "0101", "0011", "0001"),
		"a>\nb>\nc>\nd>ab\ne>bc\nf>de\n": of("100000", "010000", "001000",
			"110100", "011010", "111111"),
		"a>bcdef\nb>\nc>\nd>\ne>\nf>\n": of("111111", "010000", "001000",
			"000100", "000010", "000001"),
	} {
		if got := Print(l); got != want {
			t.Errorf("print: %q, not %q", got, want)
		}
	}
}

func TestNothingIsPrintedOfWhatErrs(t *testing.T) { // P2.1
	for name, l := range map[string]api.Lattice{
		"no rows":             {},
		"an empty list":       {Dom: [][]bool{}},
		"an empty row":        {Dom: [][]bool{{}}},
		"a row that is nil":   {Dom: [][]bool{{true, false}, nil}},
		"a short row":         of("10", "1"),
		"a long row":          of("10", "010"),
		"not of itself":       of("0"),
		"of one another":      of("11", "11"),
		"a step lacks":        of("100", "110", "011"),
		"a level too many":    of("1000000", "0100000", "0010000", "0001000", "0000100", "0000010", "0000001"),
		"a great many levels": {Dom: make([][]bool, 100000)},
	} {
		if got := Print(l); got != "" {
			t.Errorf("%s: %q", name, got)
		}
	}
}

func TestParse(t *testing.T) { // P2.2
	for s, want := range map[string]api.Lattice{
		"a>\n":      of("1"),
		"a>\nb>\n":  of("10", "01"),
		"a>\nb>a\n": of("10", "11"),
		"a>b\nb>\n": of("11", "01"),
		// what is reached in more steps, down the lines and up
		"a>\nb>a\nc>b\n": of("100", "110", "111"),
		"a>b\nb>c\nc>\n": of("111", "011", "001"),
		"a>c\nb>\nc>b\n": of("111", "010", "011"),
		"a>b\nb>\nc>a\n": of("110", "010", "111"),
		// the names in whatever order, and of what is reached anyway
		"a>\nb>a\nc>ab\n":               of("100", "110", "111"),
		"a>\nb>a\nc>ba\n":               of("100", "110", "111"),
		"a>\nb>a\nc>a\nd>bca\n":         of("1000", "1100", "1010", "1111"),
		"a>\nb>a\nc>a\nd>cb\n":          of("1000", "1100", "1010", "1111"),
		"a>f\nb>a\nc>b\nd>c\ne>d\nf>\n": of("100001", "110001", "111001", "111101", "111111", "000001"),
		"a>fedcb\nb>fedc\nc>fed\nd>fe\ne>f\nf>\n": of("111111", "011111", "001111", "000111", "000011",
			"000001"),
	} {
		if got, e := Parse(s); e != api.OK || !same(got, want) {
			t.Errorf("%q: %v, %v", s, got.Dom, e)
		}
	}
}

func TestParseTellsForm(t *testing.T) { // P2.2
	six := "a>\nb>\nc>\nd>\ne>\nf>\n"
	for name, s := range map[string]string{
		"none":                         "",
		"an empty line":                "\n",
		"an empty line ahead":          "\na>\n",
		"an empty line between":        "a>\n\nb>\n",
		"an empty line behind":         "a>\n\n",
		"the last line isn't ended":    "a>\nb>a",
		"the only line isn't ended":    "a>",
		"a name alone":                 "a",
		"no >":                         "a\n",
		"no name":                      ">\n",
		"no >, but a name":             "a>\nba\n",
		"two >":                        "a>\nb>>a\n",
		"not from a on":                "b>\n",
		"a level left out":             "a>\nc>\n",
		"a level twice":                "a>\na>\n",
		"not in order":                 "b>\na>\n",
		"of itself":                    "a>a\n",
		"of itself, among others":      "a>\nb>ab\n",
		"a name twice":                 "a>\nb>aa\n",
		"a name twice, not in a row":   "a>\nb>\nc>aba\n",
		"of no level there is":         "a>b\n",
		"of no level, one past":        "a>\nb>c\n",
		"of no level, behind good":     "a>\nb>af\n",
		"of no level there may be":     "a>g\nb>\nc>\nd>\ne>\nf>\n",
		"a great letter":               "a>\nb>A\n",
		"a great letter ahead":         "A>\n",
		"a digit":                      "a>\nb>0\n",
		"a blank behind >":             "a>\nb> a\n",
		"a blank ahead":                " a>\n",
		"a blank behind":               "a> \n",
		"a blank between names":        "a>\nb>\nc>a b\n",
		"a comma":                      "a>\nb>\nc>a,b\n",
		"another end of the line":      "a>\r\n",
		"another end, alone":           "a>\r",
		"a byte 0":                     "a>\x00\n",
		"no text":                      "a>\nb>\xff\n",
		"a letter of two bytes":        "a>\nb>á\n",
		"a level too many":             six + "g>\n",
		"a level too many, of no name": six + ">\n",
		"too many, an empty line":      six + "\n",
		"too many, the last not ended": six + "g",
		"twice the whole":              six + six,
		"names of all, twice":          "a>bcdefbcdef\nb>\nc>\nd>\ne>\nf>\n",
	} {
		if l, e := Parse(s); e != api.ErrForm || l.Dom != nil {
			t.Errorf("%s: %v, %v", name, l.Dom, e)
		}
	}
	if l, e := Parse(six); e != api.OK || len(l.Dom) != api.MaxLevels {
		t.Errorf("as many as may: %v, %v", l.Dom, e)
	}
}

func TestParseTellsLattice(t *testing.T) { // P2.2
	for _, s := range []string{
		"a>b\nb>a\n",
		"a>b\nb>c\nc>a\n",
		"a>\nb>\nc>b\nd>e\ne>d\n",
		"a>\nb>d\nc>b\nd>ac\n",
		"a>f\nb>a\nc>b\nd>c\ne>d\nf>e\n",
		"a>bcdef\nb>acdef\nc>abdef\nd>abcef\ne>abcdf\nf>abcde\n",
	} {
		if l, e := Parse(s); e != api.ErrLattice || l.Dom != nil {
			t.Errorf("%q: %v, %v", s, l.Dom, e)
		}
	}
}

func TestFormGoesAheadOfLattice(t *testing.T) { // P2.2, with rule 4 of what holds everywhere
	for _, s := range []string{
		"a>b\nb>a",
		"a>b\nb>a\n\n",
		"a>b\nb>a\nc>cc\n",
		"a>b\nb>a\nc>d\n",
		"a>b\nb>a\nd>\n",
		"a>b\nb>a\nc>\nd>\ne>\nf>\ng>\n",
	} {
		if l, e := Parse(s); e != api.ErrForm || l.Dom != nil {
			t.Errorf("%q: %v, %v", s, l.Dom, e)
		}
	}
}

func TestLongTexts(t *testing.T) { // P2.2, with rule 1 of what holds everywhere
	const long = 1 << 22
	for name, s := range map[string]string{
		"lines":       strings.Repeat("a>\n", long),
		"empty lines": strings.Repeat("\n", long),
		"names":       "a>\nb>" + strings.Repeat("a", long),
		"no names":    strings.Repeat("z", long),
	} {
		if l, e := Parse(s); e != api.ErrForm || l.Dom != nil {
			t.Errorf("many %s: %d rows, %v", name, len(l.Dom), e)
		}
		if level, ok := Level(s); level != 0 || ok {
			t.Errorf("many %s: level %d", name, level)
		}
	}
}

// arrows hands over each way in which some of n levels name others: its text, and who names whom.
func arrows(n int, f func(s string, named [][]bool)) {
	for bits := range 1 << (n * (n - 1)) {
		s := ""
		var named [][]bool
		for a := range n {
			s += "abcdef"[a:a+1] + ">"
			row := make([]bool, n)
			for b := n - 1; b >= 0; b-- { // not in Print's order
				if b == a {
					continue
				}
				if bits&1 == 1 {
					s += "abcdef"[b : b+1]
					row[b] = true
				}
				bits >>= 1
			}
			s += "\n"
			named = append(named, row)
		}
		f(s, named)
	}
}

// walk tells the levels that are reached from one, by names again and again.
func walk(named [][]bool, from int) []bool {
	reached := make([]bool, len(named))
	todo := []int{from}
	for len(todo) > 0 {
		a := todo[0]
		todo = todo[1:]
		for b, there := range named[a] {
			if there && !reached[b] {
				reached[b] = true
				todo = append(todo, b)
			}
		}
	}
	return reached
}

// want tells by the words of P2.2 what Parse answers of who names whom.
func want(named [][]bool) (api.Lattice, api.Errno) {
	var l api.Lattice
	for a := range named {
		row := walk(named, a)
		if row[a] { // a way back to it: another one on that way reaches it, and is reached
			return api.Lattice{}, api.ErrLattice
		}
		row[a] = true
		l.Dom = append(l.Dom, row)
	}
	return l, api.OK
}

func TestAllSmallPlans(t *testing.T) { // P2.1, P2.2, P2.3
	for n := 1; n <= 4; n++ {
		plans := map[string]api.Lattice{}
		arrows(n, func(s string, named [][]bool) {
			l, e := Parse(s)
			expected, err := want(named)
			if e != err || !same(l, expected) {
				t.Fatalf("%q: %v, %v, not %v, %v", s, l.Dom, e, expected.Dom, err)
			}
			if e != api.OK {
				return
			}
			p := Print(l)
			if m, ok := plans[p]; ok && !same(l, m) {
				t.Fatalf("%q is printed of two", p)
			}
			plans[p] = l
			if again, e := Parse(p); e != api.OK || !same(again, l) {
				t.Fatalf("%q is printed %q, and parsed %v, %v", s, p, again.Dom, e)
			}
		})
		if lattices := []int{0, 1, 3, 19, 219}[n]; len(plans) != lattices {
			t.Errorf("%d lattices of %d levels", len(plans), n)
		}
	}
}

// form tells by the words of P2.2 who names whom in a text; false: it is ill-formed.
func form(s string) ([][]bool, bool) {
	lines := strings.Split(s, "\n")
	n := len(lines) - 1
	if n < 1 || n > 6 || lines[n] != "" {
		return nil, false
	}
	var named [][]bool
	for a, line := range lines[:n] {
		own, names, ok := strings.Cut(line, ">")
		if !ok || own != "abcdef"[a:a+1] {
			return nil, false
		}
		row := make([]bool, n)
		for i := range len(names) {
			b := strings.IndexByte("abcdef"[:n], names[i])
			if b < 0 || b == a || strings.Count(names, names[i:i+1]) != 1 {
				return nil, false
			}
			row[b] = true
		}
		named = append(named, row)
	}
	return named, true
}

func TestTextsThatAreSpoilt(t *testing.T) { // P2.2
	try := func(s string) {
		named, ok := form(s)
		expected, err := api.Lattice{}, api.ErrForm
		if ok {
			expected, err = want(named)
		}
		if l, e := Parse(s); e != err || !same(l, expected) {
			t.Errorf("%q: %v, %v, not %v, %v", s, l.Dom, e, expected.Dom, err)
		}
	}
	for _, s := range []string{"a>\n", "a>\nb>a\n", "a>b\nb>c\nc>\n", "a>\nb>a\nc>a\nd>cb\n",
		"a>\nb>\nc>\nd>ab\ne>bc\nf>de\n"} {
		for i := range len(s) + 1 {
			try(s[:i])
			try(s[i:])
			for c := range 256 {
				b := string([]byte{byte(c)})
				try(s[:i] + b + s[i:])
				if i < len(s) {
					try(s[:i] + b + s[i+1:])
				}
			}
			for j := i; j <= len(s); j++ {
				try(s[:i] + s[j:])
				try(s[:j] + s[i:])
			}
		}
	}
}

func TestPrintLeavesTheLattice(t *testing.T) { // P2.3, with rule 3 of what holds everywhere
	l := api.Lattice{Dom: make([][]bool, 0, 8)}
	for _, row := range lattice.Chain(4).Dom {
		l.Dom = append(l.Dom, append(append(make([]bool, 0, 8), row...), true)[:4])
	}
	l.Dom[:8][4] = []bool{true}
	if got := Print(l); got != "a>\nb>a\nc>b\nd>c\n" {
		t.Errorf("print: %q", got)
	}
	if !same(l, lattice.Chain(4)) || len(l.Dom[:8][4]) != 1 {
		t.Error("changed")
	}
	for a, row := range l.Dom {
		if !row[:5][4] {
			t.Errorf("the spare room of row %d was changed", a)
		}
	}
}

func TestParseAnswersNewMemory(t *testing.T) { // P2.3, with rule 3 of what holds everywhere
	const s = "a>\nb>a\nc>b\n"
	first, _ := Parse(s)
	second, _ := Parse(s)
	for a, row := range first.Dom {
		whole := append(row, true, true, true)
		for i := range whole {
			whole[i] = true
		}
		for i := range row[:cap(row)] {
			row[:cap(row)][i] = true
		}
		for b := a + 1; b < len(first.Dom); b++ {
			if !slices.Equal(first.Dom[b], lattice.Chain(3).Dom[b]) {
				t.Errorf("row %d shares its memory with row %d", a, b)
			}
		}
	}
	third, e := Parse(s)
	if !same(second, lattice.Chain(3)) || !same(third, second) || e != api.OK {
		t.Error("one answer touches another one")
	}
}
