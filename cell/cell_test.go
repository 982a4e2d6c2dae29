package cell

import (
	"cmp"
	"math"
	"math/big"
	"slices"
	"strings"
	"testing"

	"ravelin/api"
)

// edges tells numbers at and beside each place where one more bit or byte is needed, rising.
func edges() []int {
	ns := []int{0, 1, 2, 300, math.MaxInt - 1, math.MaxInt}
	for bit := 2; bit < 63; bit++ {
		ns = append(ns, 1<<bit-1, 1<<bit, 1<<bit+1)
	}
	slices.Sort(ns)
	return slices.Compact(ns)
}

// numOf works out Num by the words of P3.1.
func numOf(n int) string {
	digits := big.NewInt(int64(max(n, 0))).Bytes() // the highest first, none for 0
	return string(append([]byte{byte(len(digits))}, digits...))
}

// takeNumOf works out TakeNum by the words of P3.2.
func takeNumOf(s string) (int, int, api.Errno) {
	if len(s) == 0 {
		return 0, 0, api.ErrShort
	}
	if s[0] > 8 {
		return 0, 0, api.ErrForm
	}
	if len(s) < 1+int(s[0]) {
		return 0, 0, api.ErrShort
	}
	digits := s[1 : 1+int(s[0])]
	n := new(big.Int).SetBytes([]byte(digits))
	if strings.HasPrefix(digits, "\x00") || n.Cmp(big.NewInt(math.MaxInt)) > 0 {
		return 0, 0, api.ErrForm
	}
	return int(n.Int64()), 1 + len(digits), api.OK
}

// takeTextOf works out TakeText by the words of P3.2.
func takeTextOf(s string) (string, int, api.Errno) {
	n, k, e := takeNumOf(s)
	if e != api.OK {
		return "", 0, e
	}
	if n > len(s)-k {
		return "", 0, api.ErrShort
	}
	return s[k : k+n], k + n, api.OK
}

// holdTakes holds both takes of a text against the words.
func holdTakes(t *testing.T, s string) {
	t.Helper()
	n, k, e := TakeNum(s)
	if wn, wk, we := takeNumOf(s); n != wn || k != wk || e != we {
		t.Errorf("number at the front of %.40q: %d, %d, %v, not %d, %d, %v", s, n, k, e, wn, wk, we)
	}
	x, k, e := TakeText(s)
	if wx, wk, we := takeTextOf(s); x != wx || k != wk || e != we {
		t.Errorf("text at the front of %.40q: %.40q, %d, %v, not %.40q, %d, %v", s, x, k, e, wx, wk, we)
	}
}

func TestNum(t *testing.T) { // P3.1
	for n, want := range map[int]string{
		0:                 "\x00",
		1:                 "\x01\x01",
		127:               "\x01\x7f",
		128:               "\x01\x80",
		255:               "\x01\xff",
		256:               "\x02\x01\x00",
		300:               "\x02\x01\x2c",
		65535:             "\x02\xff\xff",
		65536:             "\x03\x01\x00\x00",
		1 << 24:           "\x04\x01\x00\x00\x00",
		1 << 32:           "\x05\x01\x00\x00\x00\x00",
		1<<56 - 1:         "\x07\xff\xff\xff\xff\xff\xff\xff",
		1 << 56:           "\x08\x01\x00\x00\x00\x00\x00\x00\x00",
		math.MaxInt:       "\x08\x7f\xff\xff\xff\xff\xff\xff\xff",
		0x102030405060708: "\x08\x01\x02\x03\x04\x05\x06\x07\x08",
	} {
		if got := Num(n); got != want {
			t.Errorf("%d: %q, not %q", n, got, want)
		}
	}
	for n := range 1 << 17 {
		if got, want := Num(n), numOf(n); got != want {
			t.Errorf("%d: %q, not %q", n, got, want)
		}
	}
	for _, n := range edges() {
		if got, want := Num(n), numOf(n); got != want {
			t.Errorf("%d: %q, not %q", n, got, want)
		}
	}
}

func TestNumBelowNone(t *testing.T) { // P3.1
	for _, n := range []int{-1, -2, -255, -256, -300, math.MinInt32, math.MinInt + 1, math.MinInt} {
		if got := Num(n); got != "\x00" {
			t.Errorf("%d: %q", n, got)
		}
	}
}

func TestGreaterIsLater(t *testing.T) { // P3.1
	ns := edges()
	for _, a := range ns {
		for _, b := range ns {
			if got, want := strings.Compare(Num(a), Num(b)), cmp.Compare(a, b); got != want {
				t.Errorf("%d to %d: %d", a, b, got)
			}
			if Less(Num(a), Num(b)) != (a < b) {
				t.Errorf("less, of %d and %d", a, b)
			}
		}
	}
	for n := range 1 << 17 {
		if !Less(Num(n), Num(n+1)) || Less(Num(n+1), Num(n)) {
			t.Errorf("less, of %d and the next", n)
		}
	}
}

func TestText(t *testing.T) { // P3.1
	for s, want := range map[string]string{
		"":                        "\x00",
		"a":                       "\x01\x01a",
		"abc":                     "\x01\x03abc",
		"\x00":                    "\x01\x01\x00",
		"\x00\xff\n":              "\x01\x03\x00\xff\n",
		"á":                       "\x01\x02\xc3\xa1",
		Num(300):                  "\x01\x03\x02\x01\x2c",
		Text("ab"):                "\x01\x04\x01\x02ab",
		strings.Repeat("x", 255):  "\x01\xff" + strings.Repeat("x", 255),
		strings.Repeat("x", 256):  "\x02\x01\x00" + strings.Repeat("x", 256),
		strings.Repeat("xy", 150): "\x02\x01\x2c" + strings.Repeat("xy", 150),
	} {
		if got := Text(s); got != want {
			t.Errorf("%.40q: %.40q", s, got)
		}
	}
}

func TestLess(t *testing.T) { // P3.1: the order that it speaks of
	rising := []string{"", "\x00", "\x00\x00", "\x00\x01", "\x01", "\x01\x00", "A", "a", "a\x00", "aa", "ab", "a\xff", "b",
		"\x7f", "\x7f\xff", "\x80", "á", "\xff", "\xff\x00", "\xff\xff"}
	for i, a := range rising {
		for j, b := range rising {
			if Less(a, b) != (i < j) {
				t.Errorf("less, of %q and %q", a, b)
			}
		}
	}
}

func TestTake(t *testing.T) { // P3.2
	for s, want := range map[string]struct{ n, k int }{
		"\x00":                                 {0, 1},
		"\x00\x00":                             {0, 1},
		"\x00\xff":                             {0, 1},
		"\x01\x01":                             {1, 2},
		"\x01\xff":                             {255, 2},
		"\x01\x05\x00\x00":                     {5, 2},
		"\x02\x01\x2c":                         {300, 3},
		"\x02\x01\x00more":                     {256, 3},
		"\x07\xff\xff\xff\xff\xff\xff\xff":     {1<<56 - 1, 8},
		"\x08\x01\x00\x00\x00\x00\x00\x00\x00": {1 << 56, 9},
		"\x08\x7f\xff\xff\xff\xff\xff\xff\xff": {math.MaxInt, 9},
		"\x08\x7f\xff\xff\xff\xff\xff\xff\xff\xff": {math.MaxInt, 9},
	} {
		if n, k, e := TakeNum(s); n != want.n || k != want.k || e != api.OK {
			t.Errorf("number at the front of %q: %d, %d, %v", s, n, k, e)
		}
	}
	for s, want := range map[string]struct {
		x string
		k int
	}{
		"\x00":                     {"", 1},
		"\x00abc":                  {"", 1},
		"\x01\x01a":                {"a", 3},
		"\x01\x02abc":              {"ab", 4},
		"\x01\x03\x00\x01\x02\x03": {"\x00\x01\x02", 5},
		"\x02\x01\x00" + strings.Repeat("x", 256) + "y": {strings.Repeat("x", 256), 259},
	} {
		if x, k, e := TakeText(s); x != want.x || k != want.k || e != api.OK {
			t.Errorf("text at the front of %.40q: %.40q, %d, %v", s, x, k, e)
		}
	}
}

func TestTakeErrs(t *testing.T) { // P3.2
	for name, c := range map[string]struct {
		s    string
		want api.Errno
	}{
		"no byte":                          {"", api.ErrShort},
		"a first byte above 8":             {"\x09", api.ErrForm},
		"above 8, bytes enough":            {"\x09\x01\x01\x01\x01\x01\x01\x01\x01\x01", api.ErrForm},
		"above 8, the highest":             {"\xff", api.ErrForm},
		"above 8, bytes enough for 255":    {"\xff" + strings.Repeat("\x01", 300), api.ErrForm},
		"a byte lacks":                     {"\x01", api.ErrShort},
		"one of two lacks":                 {"\x02\x01", api.ErrShort},
		"one of eight lacks":               {"\x08\x01\x01\x01\x01\x01\x01\x01", api.ErrShort},
		"all of eight lack":                {"\x08", api.ErrShort},
		"a byte lacks, a 0 ahead":          {"\x02\x00", api.ErrShort},
		"a byte lacks, no int":             {"\x08\xff\xff\xff\xff\xff\xff\xff", api.ErrShort},
		"a 0 alone":                        {"\x01\x00", api.ErrForm},
		"a 0 ahead":                        {"\x02\x00\x01", api.ErrForm},
		"zeros alone":                      {"\x08\x00\x00\x00\x00\x00\x00\x00\x00", api.ErrForm},
		"a 0 ahead of eight":               {"\x08\x00\x01\x01\x01\x01\x01\x01\x01", api.ErrForm},
		"the greatest int and 1":           {"\x08\x80\x00\x00\x00\x00\x00\x00\x00", api.ErrForm},
		"no int, the greatest":             {"\x08\xff\xff\xff\xff\xff\xff\xff\xff", api.ErrForm},
		"no int, by its second byte alone": {"\x08\x80\x01\x00\x00\x00\x00\x00\x00", api.ErrForm},
	} {
		if n, k, e := TakeNum(c.s); n != 0 || k != 0 || e != c.want {
			t.Errorf("number, %s: %d, %d, %v", name, n, k, e)
		}
		if x, k, e := TakeText(c.s); x != "" || k != 0 || e != c.want {
			t.Errorf("text, %s: %q, %d, %v", name, x, k, e)
		}
	}
}

func TestTakeTextErrs(t *testing.T) { // P3.2
	for name, s := range map[string]string{
		"all bytes lack":            "\x01\x01",
		"the last byte lacks":       "\x01\x03ab",
		"of 256 the last lacks":     "\x02\x01\x00" + strings.Repeat("x", 255),
		"of the greatest int":       "\x08\x7f\xff\xff\xff\xff\xff\xff\xff",
		"of the greatest int, some": "\x08\x7f\xff\xff\xff\xff\xff\xff\xffabcdefghijkl",
		"so that the sum is no int": "\x08\x7f\xff\xff\xff\xff\xff\xff\xf7abc",
		"of 2^32":                   "\x05\x01\x00\x00\x00\x00abc",
		"of 2^31":                   "\x04\x80\x00\x00\x00abc",
	} {
		if x, k, e := TakeText(s); x != "" || k != 0 || e != api.ErrShort {
			t.Errorf("%s: %q, %d, %v", name, x, k, e)
		}
	}
}

func TestTakeOfAllShortTexts(t *testing.T) { // P3.2
	holdTakes(t, "")
	for a := range 256 {
		holdTakes(t, string([]byte{byte(a)}))
		for b := range 256 {
			holdTakes(t, string([]byte{byte(a), byte(b)}))
			for _, c := range []byte{0, 1, 2, 127, 128, 255} {
				holdTakes(t, string([]byte{byte(a), byte(b), c}))
			}
		}
	}
}

func TestTakeOfAllWidths(t *testing.T) { // P3.2: of each width, bytes lacking, enough and to spare
	some := []byte{0, 1, 0x7f, 0x80, 0xff}
	for width := range 11 {
		for _, first := range some {
			for _, second := range some {
				for _, rest := range some {
					digits := string([]byte{first, second}) + strings.Repeat(string([]byte{rest}), 11)
					for n := range len(digits) + 1 {
						holdTakes(t, string([]byte{byte(width)})+digits[:n])
					}
				}
			}
		}
	}
}

func TestPutIsTaken(t *testing.T) { // P3.3
	for _, n := range append(edges(), -1, math.MinInt) {
		s := Num(n)
		for _, behind := range []string{"", "\x00", "\xff", "abc", s} {
			if got, k, e := TakeNum(s + behind); got != max(n, 0) || k != len(s) || e != api.OK {
				t.Errorf("%d with %q behind: %d, %d, %v", n, behind, got, k, e)
			}
		}
		for cut := range len(s) {
			if got, k, e := TakeNum(s[:cut]); got != 0 || k != 0 || e != api.ErrShort {
				t.Errorf("%d, cut at %d: %d, %d, %v", n, cut, got, k, e)
			}
		}
	}
	for n := range 1 << 17 {
		if got, k, e := TakeNum(Num(n)); got != n || k != len(Num(n)) || e != api.OK {
			t.Errorf("%d: %d, %d, %v", n, got, k, e)
		}
	}
}

func TestPutTextIsTaken(t *testing.T) { // P3.3
	for _, x := range []string{"", "a", "\x00", "\x00\xff\x09", "\x80á", Num(300), Text("abc"), strings.Repeat("x", 255),
		strings.Repeat("y", 256), strings.Repeat("z", 65536)} {
		s := Text(x)
		for _, behind := range []string{"", "\x00", "\xff", Text("more")} {
			if got, k, e := TakeText(s + behind); got != x || k != len(s) || e != api.OK {
				t.Errorf("%.40q with %q behind: %.40q, %d, %v", x, behind, got, k, e)
			}
		}
		for cut := range min(len(s), 300) {
			if got, k, e := TakeText(s[:cut]); got != "" || k != 0 || e != api.ErrShort {
				t.Errorf("%.40q, cut at %d: %.40q, %d, %v", x, cut, got, k, e)
			}
		}
	}
	large := strings.Repeat("0123456789", 1<<20)
	if got, k, e := TakeText(Text(large)); got != large || k != len(large)+4 || e != api.OK {
		t.Errorf("a large one: %d bytes, %d, %v", len(got), k, e)
	}
}

func TestRowIsTaken(t *testing.T) { // P3.3
	texts := []string{"", "k", "value", strings.Repeat("w", 300), "\x00"}
	var s string
	for i, x := range texts {
		s += Num(i*1000) + Text(x)
	}
	for i, x := range texts {
		n, k, e := TakeNum(s)
		if n != i*1000 || e != api.OK {
			t.Fatalf("number %d: %d, %v", i, n, e)
		}
		s = s[k:]
		got, k, e := TakeText(s)
		if got != x || e != api.OK {
			t.Fatalf("text %d: %.40q, %v", i, got, e)
		}
		s = s[k:]
	}
	if s != "" {
		t.Errorf("left: %.40q", s)
	}
}
