package seal

import (
	"encoding/binary"
	"hash/adler32"
	"math"
	"slices"
	"strings"
	"testing"

	"ravelin/api"
	"ravelin/cell"
)

// samples tells texts of many lengths, beside the lengths at which a number needs one more byte.
func samples() []string {
	texts := []string{"", "\x00", "\x01", "\xff", "a", "abc", "Wikipedia", "\x00\x00", "\x00\x00\x00\x00\x01", "á", cell.Num(300), Seal(""), Seal("abc")}
	for _, size := range []int{2, 3, 4, 5, 24, 200, 254, 255, 256, 257, 300} {
		texts = append(texts, mixed(size), strings.Repeat("\x00", size), strings.Repeat("\xff", size))
	}
	return texts
}

// mixed tells a text of that many bytes, in which all bytes come, in no plain order.
func mixed(size int) string {
	b := make([]byte, size)
	for i := range b {
		b[i] = byte(i*i*7 + i*31 + 5)
	}
	return string(b)
}

// sumOf works out Sum by the words of P4.1, its rests taken only at the end.
func sumOf(s string) uint32 {
	a, b := uint64(1), uint64(0)
	for i := range len(s) {
		a += uint64(s[i])
		b += a
	}
	return uint32(b%65521*65536 + a%65521)
}

// openOf works out Open by the words of P4.2.
func openOf(s string) (string, int, api.Errno) {
	n, k, e := cell.TakeNum(s)
	switch {
	case e == api.ErrShort:
		return "", 0, api.ErrShort
	case e != api.OK:
		return "", 0, api.ErrSpoilt
	case len(s)-k < 4 || len(s)-k-4 < n:
		return "", 0, api.ErrShort
	case binary.BigEndian.Uint32([]byte(s[k:k+4])) != sumOf(s[k+4:k+4+n]):
		return "", 0, api.ErrSpoilt
	}
	return s[k+4 : k+4+n], k + 4 + n, api.OK
}

// holdOpen holds Open of a text against the words.
func holdOpen(t *testing.T, s string) {
	t.Helper()
	x, k, e := Open(s)
	if wx, wk, we := openOf(s); x != wx || k != wk || e != we {
		t.Errorf("%.40q: %.40q, %d, %v, not %.40q, %d, %v", s, x, k, e, wx, wk, we)
	}
}

func TestSum(t *testing.T) { // P4.1
	for s, want := range map[string]uint32{
		"":             1,
		"\x00":         0x00010001,
		"\x00\x00":     0x00020001,
		"\x01":         0x00020002,
		"\xff":         0x01000100,
		"a":            0x00620062,
		"abc":          0x024d0127,
		"acb":          0x024e0127,
		"Wikipedia":    0x11e60398,
		"\x80\x80\x80": 0x03030181,
	} {
		if got := Sum(s); got != want {
			t.Errorf("%q: %08x, not %08x", s, got, want)
		}
	}
	for _, s := range samples() {
		if got, want := Sum(s), sumOf(s); got != want {
			t.Errorf("%.40q: %08x, not %08x", s, got, want)
		}
	}
}

func TestSumOfLongTexts(t *testing.T) { // P4.1: past the places where a rest is taken
	bytes := map[string]string{"ff": "\xff", "00": "\x00", "01": "\x01", "80": "\x80"}
	for name, one := range bytes {
		for _, size := range []int{256, 257, 361, 362, 363, 5551, 5552, 5553, 65519, 65520, 65521, 65522, 65535, 65536, 65537, 70000, 1 << 20} {
			s := strings.Repeat(one, size)
			if got, want := Sum(s), adler32.Checksum([]byte(s)); got != want || got != sumOf(s) {
				t.Errorf("%d times %s: %08x, not %08x", size, name, got, want)
			}
		}
	}
	if s := strings.Repeat("\x01", 65520); Sum(s)&0xffff != 0 {
		t.Errorf("a sum whose rest is 0: %08x", Sum(s))
	}
	if s := strings.Repeat("\xff", 256) + "\xf0"; Sum(s)&0xffff != 0 || Sum(s+"\x00") != Sum(s) || Sum(s+"\x01")&0xffff != 1 {
		t.Errorf("a sum whose rest is 0, and behind it: %08x", Sum(s))
	}
	large := mixed(3 << 20)
	if got, want := Sum(large), adler32.Checksum([]byte(large)); got != want {
		t.Errorf("a large one: %08x, not %08x", got, want)
	}
}

func TestSeal(t *testing.T) { // P4.1
	for s, want := range map[string]string{
		"":                        "\x00\x00\x00\x00\x01",
		"\x00":                    "\x01\x01\x00\x01\x00\x01\x00",
		"abc":                     "\x01\x03\x02\x4d\x01\x27abc",
		"Wikipedia":               "\x01\x09\x11\xe6\x03\x98Wikipedia",
		strings.Repeat("\x00", 8): "\x01\x08\x00\x08\x00\x01" + strings.Repeat("\x00", 8),
		strings.Repeat("a", 256):  "\x02\x01\x00\xb4\x50\x61\x01" + strings.Repeat("a", 256),
		"\x00\x00\x00\x00\x01":    "\x01\x05\x00\x06\x00\x02\x00\x00\x00\x00\x01",
	} {
		if got := Seal(s); got != want {
			t.Errorf("%.40q: %.40q, not %.40q", s, got, want)
		}
	}
	for _, s := range samples() {
		want := cell.Num(len(s)) + string(binary.BigEndian.AppendUint32(nil, adler32.Checksum([]byte(s)))) + s
		if got := Seal(s); got != want {
			t.Errorf("%.40q: %.40q, not %.40q", s, got, want)
		}
	}
}

func TestOpen(t *testing.T) { // P4.2
	texts := append(samples(), mixed(65535), mixed(65536), mixed(1<<20))
	for _, s := range texts {
		b := Seal(s)
		for _, behind := range []string{"", "\x00", "\xff", "behind", Seal("more"), b} {
			if got, n, e := Open(b + behind); got != s || n != len(b) || e != api.OK {
				t.Errorf("%.40q with %.40q behind: %.40q, %d, %v", s, behind, got, n, e)
			}
		}
	}
}

func TestOpenErrs(t *testing.T) { // P4.2
	zeros := strings.Repeat("\x00", 300)
	for name, c := range map[string]struct {
		s    string
		want api.Errno
	}{
		"nothing":                            {"", api.ErrShort},
		"a number that lacks a byte":         {"\x01", api.ErrShort},
		"a number that lacks one of eight":   {"\x08\xff\xff\xff\xff\xff\xff\xff", api.ErrShort},
		"a lacking number, a 0 ahead":        {"\x02\x00", api.ErrShort},
		"a first byte above 8":               {"\x09", api.ErrSpoilt},
		"above 8, the highest":               {"\xff", api.ErrSpoilt},
		"above 8, bytes enough":              {"\x09" + zeros, api.ErrSpoilt},
		"a 0 alone":                          {"\x01\x00", api.ErrSpoilt},
		"a 0 alone, and the sum of nothing":  {"\x01\x00\x00\x00\x00\x01", api.ErrSpoilt},
		"a 0 ahead":                          {"\x02\x00\x01\x00\x62\x00\x62a", api.ErrSpoilt},
		"no int":                             {"\x08\x80\x00\x00\x00\x00\x00\x00\x00" + zeros, api.ErrSpoilt},
		"no int, no byte behind":             {"\x08\xff\xff\xff\xff\xff\xff\xff\xff", api.ErrSpoilt},
		"no sum":                             {"\x00", api.ErrShort},
		"one byte of a sum":                  {"\x00\x00", api.ErrShort},
		"three bytes of a sum":               {"\x00\x00\x00\x00", api.ErrShort},
		"three bytes of another sum":         {"\x00\xff\xff\xff", api.ErrShort},
		"a sum, and the text lacks":          {"\x01\x01\x00\x62\x00\x62", api.ErrShort},
		"another sum, and the text lacks":    {"\x01\x01\xff\xff\xff\xff", api.ErrShort},
		"one byte of a text lacks":           {"\x01\x03\x02\x4d\x01\x27ab", api.ErrShort},
		"of 256 the last lacks":              {Seal(mixed(256))[:262], api.ErrShort},
		"the greatest int":                   {"\x08\x7f\xff\xff\xff\xff\xff\xff\xff" + zeros, api.ErrShort},
		"the greatest int, no sum":           {"\x08\x7f\xff\xff\xff\xff\xff\xff\xff", api.ErrShort},
		"with the sum's bytes no int":        {"\x08\x7f\xff\xff\xff\xff\xff\xff\xfcabcdefg", api.ErrShort},
		"with the sum's bytes just an int":   {"\x08\x7f\xff\xff\xff\xff\xff\xff\xfbabcdefg", api.ErrShort},
		"with all bytes no int":              {"\x08\x7f\xff\xff\xff\xff\xff\xff\xf3abcdefg", api.ErrShort},
		"2^32":                               {"\x05\x01\x00\x00\x00\x00\x00\x00\x00\x01", api.ErrShort},
		"another sum of nothing":             {"\x00\x00\x00\x00\x02", api.ErrSpoilt},
		"a sum of 0":                         {"\x00\x00\x00\x00\x00", api.ErrSpoilt},
		"a sum with the lowest first":        {"\x00\x01\x00\x00\x00", api.ErrSpoilt},
		"a sum with its halves turned round": {"\x01\x03\x01\x27\x02\x4dabc", api.ErrSpoilt},
		"a sum that has the rest's number":   {"\x00\x00\x00\xff\xf2", api.ErrSpoilt}, // 1 + 65521
		"two bytes that changed places":      {"\x01\x03\x02\x4d\x01\x27acb", api.ErrSpoilt},
		"another sum, another one behind":    {"\x00\x00\x00\x00\x02" + Seal("abc"), api.ErrSpoilt},
		"a byte ahead":                       {"\x01" + Seal(""), api.ErrSpoilt},
	} {
		if x, n, e := Open(c.s); x != "" || n != 0 || e != c.want {
			t.Errorf("%s: %.40q, %d, %v, not %v", name, x, n, e, c.want)
		}
	}
}

func TestOpenOfCutOnes(t *testing.T) { // P4.2
	for _, s := range samples() {
		b := Seal(s)
		for at := range len(b) {
			if x, n, e := Open(b[:at]); x != "" || n != 0 || e != api.ErrShort {
				t.Errorf("%.40q, cut at %d: %.40q, %d, %v", s, at, x, n, e)
			}
		}
	}
}

func TestOpenOfAllFronts(t *testing.T) { // P4.2: of all first and second bytes, bytes lacking, enough and to spare
	for _, behind := range []string{"", "\x00", "\x00\x00\x01", "\x00\x00\x00\x01", "\x00\x01\x00\x01\x00", "\x00\x62\x00\x62abc",
		strings.Repeat("\x00", 300), strings.Repeat("\xff", 300)} {
		for a := range 256 {
			holdOpen(t, string([]byte{byte(a)})+behind)
			for b := range 256 {
				holdOpen(t, string([]byte{byte(a), byte(b)})+behind)
			}
		}
	}
}

func TestAll(t *testing.T) { // P4.2
	texts := []string{"one", "", "three", "\x00", mixed(255), mixed(256), "", Seal("within"), mixed(65536)}
	var row string
	ends := []int{0}
	for _, x := range texts {
		row += Seal(x)
		ends = append(ends, len(row))
	}
	for n, end := range ends {
		for name, behind := range map[string]string{
			"nothing":              "",
			"a lone byte":          "\x01",
			"a spoilt front":       "\x09",
			"a cut one":            Seal("abc")[:8],
			"one of no sum":        "\x00\x00\x00\x00",
			"another sum":          "\x00\x00\x00\x00\x02",
			"a spoilt one, a good": "\x00\x00\x00\x00\x02" + Seal("abc"),
			"a long one":           "\x08\x7f\xff\xff\xff\xff\xff\xff\xff" + Seal("abc"),
			"an ill-formed one":    "\x01\x00" + Seal(""),
		} {
			got, took := All(row[:end] + behind)
			if !slices.Equal(got, texts[:n]) || took != end {
				t.Errorf("%d, and %s behind: %d, %d of %d", n, name, len(got), took, end)
			}
		}
	}
}

func TestAllOfCutRow(t *testing.T) { // P4.2
	texts := []string{"one", "", "three", mixed(256), "", "\x00"}
	var row string
	var ends []int
	for _, x := range texts {
		row += Seal(x)
		ends = append(ends, len(row))
	}
	for at := range len(row) + 1 {
		n, want := 0, 0
		for n < len(ends) && ends[n] <= at {
			want = ends[n]
			n++
		}
		if got, took := All(row[:at]); !slices.Equal(got, texts[:n]) || took != want {
			t.Errorf("cut at %d: %d, %d, not %d, %d", at, len(got), took, n, want)
		}
	}
}

func TestAllOfNothing(t *testing.T) { // P4.2
	for _, s := range []string{"", "\x00", "\xff", "x" + Seal("abc"), Seal("abc")[1:], "\x00\x00\x00\x00\x00\x00"} {
		if got, took := All(s); len(got) != 0 || took != 0 {
			t.Errorf("%q: %q, %d", s, got, took)
		}
	}
	many := strings.Repeat(Seal(""), 50000)
	if got, took := All(many); len(got) != 50000 || took != len(many) || slices.ContainsFunc(got, func(x string) bool { return x != "" }) {
		t.Errorf("many empty ones: %d, %d", len(got), took)
	}
}

func TestAllIsNew(t *testing.T) { // P4.2: no answer is touched by what is done with another one
	row := Seal("one") + Seal("two")
	first, _ := All(row)
	second, _ := All(row)
	for i := range first[:cap(first)] {
		first[:cap(first)][i] = "changed"
	}
	if third, _ := All(row); !slices.Equal(second, []string{"one", "two"}) || !slices.Equal(third, second) {
		t.Errorf("%q, %q", second, third)
	}
}

func TestOneByteChangedIsSeen(t *testing.T) { // P4.3
	for _, s := range samples() {
		b := Seal(s)
		holdChanges(t, b, len(b), "")
		for _, behind := range []string{strings.Repeat("\x00", 600), strings.Repeat("\xff", 600), Seal("abc")} {
			holdChanges(t, b, len(b)-len(s), behind) // what is behind may be taken where the number is another one
		}
	}
}

// holdChanges holds that each change of one of the first bytes of b, with something behind it, is seen.
func holdChanges(t *testing.T, b string, first int, behind string) {
	t.Helper()
	changed := []byte(b + behind)
	for at := range first {
		for by := 1; by < 256; by++ {
			changed[at] = b[at] ^ byte(by)
			x, n, e := Open(string(changed))
			if e != api.ErrShort && e != api.ErrSpoilt || x != "" || n != 0 {
				t.Errorf("%.40q, byte %d changed by %d: %.40q, %d, %v", b, at, by, x, n, e)
			}
		}
		changed[at] = b[at]
	}
}

func TestOneByteOfTextChangedIsSpoilt(t *testing.T) { // P4.3
	for _, size := range []int{1, 256, 5552, 65521, 1 << 17} {
		b := []byte(Seal(mixed(size)))
		for at := len(b) - size - sumSize; at < len(b); at += 1 + size/50 {
			was := b[at]
			for _, by := range []byte{1, 2, 128, 255} {
				b[at] = was ^ by
				if x, n, e := Open(string(b)); x != "" || n != 0 || e != api.ErrSpoilt {
					t.Errorf("of %d bytes, byte %d changed by %d: %d, %d, %v", size, at, by, len(x), n, e)
				}
			}
			b[at] = was
		}
	}
}

func TestOneByteChangedInRow(t *testing.T) { // P4.3: those ahead of it are told, no other
	texts := []string{"one", "", "three", mixed(60), "", "\x00"}
	var row string
	var begins []int
	for _, x := range texts {
		begins = append(begins, len(row))
		row += Seal(x)
	}
	changed := []byte(row)
	piece := 0
	for at := range len(row) {
		if piece+1 < len(begins) && at == begins[piece+1] {
			piece++
		}
		for by := 1; by < 256; by++ {
			changed[at] = row[at] ^ byte(by)
			if got, took := All(string(changed)); !slices.Equal(got, texts[:piece]) || took != begins[piece] {
				t.Errorf("byte %d changed by %d: %q, %d", at, by, got, took)
			}
		}
		changed[at] = row[at]
	}
}

func TestAnyBytesEnd(t *testing.T) { // P4.2: whatever is handed in, a call answers
	for size := range 40 {
		for first := range 256 {
			b := []byte(mixed(size))
			if size > 0 {
				b[0] = byte(first)
			}
			holdOpen(t, string(b))
			if got, took := All(string(b)); took > size || took < 5*len(got) {
				t.Errorf("%q: %q, %d", b, got, took)
			}
		}
	}
	for _, n := range []int{math.MaxInt, math.MaxInt - 3, math.MaxInt - 4, math.MaxInt - 13, 1 << 31, 1 << 32} {
		holdOpen(t, cell.Num(n)+"\x00\x00\x00\x01")
		if got, took := All(Seal("a") + cell.Num(n) + "\x00\x00\x00\x01"); !slices.Equal(got, []string{"a"}) || took != len(Seal("a")) {
			t.Errorf("%d: %q, %d", n, got, took)
		}
	}
}
