package entry

import (
	"bytes"
	"cmp"
	"encoding/binary"
	"math"
	"slices"
	"strings"
	"testing"

	"ravelin/api"
	"ravelin/cell"
)

// putOf tells an entry with a Value.
func putOf(key string, seq int, value string) api.Entry {
	return api.Entry{Key: key, Seq: seq, Value: value}
}

// delOf tells an entry with Del.
func delOf(key string, seq int) api.Entry { return api.Entry{Key: key, Seq: seq, Del: true} }

// keys tells keys of all lengths about the edges, and such as stand beside one another.
func keys() []string {
	ks := []string{"\x00", "\x00\x00", "\xff", "\x7f", "\x80", "á", "a", "a\x00", "aa", "ab", "b", "\n", cell.Text("a")}
	for size := range api.MaxKey + 4 {
		ks = append(ks, strings.Repeat("k", size), strings.Repeat("\xff", size))
	}
	return ks
}

// values tells values of all lengths about the edges.
func values() []string {
	vs := []string{"\x00", "\x01", "\xff\n", cell.Text("v")}
	for size := range api.MaxValue + 3 {
		vs = append(vs, strings.Repeat("v", size))
	}
	return vs
}

// seqs tells numbers about the edges, and where a cell has a byte more.
func seqs() []int {
	return []int{math.MinInt, math.MinInt + 1, math.MinInt32, -1000000, -1, 0, 1, 2, 255, 256, 300, 65535, 65536,
		999999, 1000000, 1000001, 1 << 24, math.MaxInt32, 1 << 32, 1 << 56, math.MaxInt - 1, math.MaxInt}
}

// samples tells entries of all these, good ones and others.
func samples() []api.Entry {
	var l []api.Entry
	for _, key := range keys() {
		for _, seq := range seqs() {
			l = append(l, putOf(key, seq, ""), putOf(key, seq, "v"), delOf(key, seq), api.Entry{Key: key, Seq: seq, Del: true, Value: "v"})
		}
		for _, value := range values() {
			l = append(l, putOf(key, 7, value), api.Entry{Key: key, Seq: 7, Del: true, Value: value})
		}
	}
	return l
}

// isOf works out Is by the words of P6.1.
func isOf(e api.Entry) bool {
	key := 1 <= len(e.Key) && len(e.Key) <= 13
	value := len(e.Value) <= 24 && (!e.Del || len(e.Value) == 0)
	return key && value && 1 <= e.Seq && e.Seq <= 1000000
}

// orderOf works out the order of two entries by the words of P6.1.
func orderOf(a, b api.Entry) int {
	return cmp.Or(bytes.Compare([]byte(a.Key), []byte(b.Key)), cmp.Compare(b.Seq, a.Seq))
}

// layOf lays an entry out by the words of P6.1, whether it Is or not (Seq not below 0).
func layOf(e api.Entry) string {
	text := func(b []byte, s string) []byte { return append(number(b, len(s)), s...) }
	b := number(text(nil, e.Key), e.Seq)
	if e.Del {
		return string(append(b, 1))
	}
	return string(text(append(b, 0), e.Value))
}

// number puts a number behind b, as a cell.
func number(b []byte, n int) []byte {
	digits := bytes.TrimLeft(binary.BigEndian.AppendUint64(nil, uint64(n)), "\x00")
	return append(append(b, byte(len(digits))), digits...)
}

// readOf works out Read by the words of P6.2: all cells are taken, one behind the other, before what they say is looked at.
func readOf(s string) (api.Entry, int, api.Errno) {
	var err api.Errno
	at := 0
	text := func() (x string) {
		if err == api.OK {
			var n int
			x, n, err = cell.TakeText(s[at:])
			at += n
		}
		return x
	}
	e := api.Entry{Key: text()}
	if err == api.OK {
		var n int
		e.Seq, n, err = cell.TakeNum(s[at:])
		at += n
	}
	if err == api.OK {
		at++
		switch {
		case at > len(s):
			err = api.ErrShort
		case s[at-1] == 0:
			e.Value = text()
		case s[at-1] == 1:
			e.Del = true
		default:
			err = api.ErrForm
		}
	}
	if err == api.OK && !isOf(e) {
		err = api.ErrForm
	}
	if err != api.OK {
		return api.Entry{}, 0, err
	}
	return e, at, api.OK
}

// holdRead holds Read of a text against the words.
func holdRead(t *testing.T, s string) {
	t.Helper()
	e, n, err := Read(s)
	if we, wn, werr := readOf(s); e != we || n != wn || err != werr {
		t.Errorf("%.60q: %v, %d, %v, not %v, %d, %v", s, e, n, err, we, wn, werr)
	}
}

// newestOf works out Newest by the words of P6.3.
func newestOf(l []api.Entry, key string, seq int) (api.Entry, bool) {
	for i := range l {
		if i > 0 && orderOf(l[i-1], l[i]) >= 0 {
			return api.Entry{}, false
		}
	}
	for _, e := range l {
		if e.Key == key && e.Seq <= seq {
			return e, true
		}
	}
	return api.Entry{}, false
}

// holdNewest holds Newest against the words, and that what is handed in isn't changed.
func holdNewest(t *testing.T, l []api.Entry, key string, seq int) {
	t.Helper()
	was := slices.Clone(l)
	e, ok := Newest(l, key, seq)
	if we, wok := newestOf(l, key, seq); e != we || ok != wok {
		t.Errorf("%q up to %d of %v: %v, %v, not %v, %v", key, seq, l, e, ok, we, wok)
	}
	if !slices.Equal(l, was) {
		t.Errorf("%q up to %d: %v, not %v any more", key, seq, l, was)
	}
}

func TestIsWrite(t *testing.T) { // P6.1
	thirteen, long := strings.Repeat("k", 13), strings.Repeat("v", 24)
	for name, c := range map[string]struct {
		w    api.Write
		want bool
	}{
		"plain":                           {api.Write{Key: "a", Value: "x"}, true},
		"no Value":                        {api.Write{Key: "a"}, true},
		"Del":                             {api.Write{Key: "a", Del: true}, true},
		"any bytes":                       {api.Write{Key: "\x00\xff", Value: "\n\x00\x80"}, true},
		"the longest":                     {api.Write{Key: thirteen, Value: long}, true},
		"the longest Key, Del":            {api.Write{Key: thirteen, Del: true}, true},
		"nothing":                         {api.Write{}, false},
		"no Key":                          {api.Write{Value: "x"}, false},
		"no Key, Del":                     {api.Write{Del: true}, false},
		"a byte more of Key":              {api.Write{Key: thirteen + "k"}, false},
		"a byte more of Key, Del":         {api.Write{Key: thirteen + "k", Del: true}, false},
		"a byte more of Value":            {api.Write{Key: "a", Value: long + "v"}, false},
		"Del with a Value":                {api.Write{Key: "a", Del: true, Value: "x"}, false},
		"Del with a 0":                    {api.Write{Key: "a", Del: true, Value: "\x00"}, false},
		"bytes, not runes, are held: Key": {api.Write{Key: strings.Repeat("á", 7)}, false},
		"and Value":                       {api.Write{Key: "a", Value: strings.Repeat("á", 13)}, false},
		"a large Key":                     {api.Write{Key: strings.Repeat("k", 1<<20)}, false},
		"a large Value":                   {api.Write{Key: "a", Value: strings.Repeat("v", 1<<20)}, false},
	} {
		if IsWrite(c.w) != c.want {
			t.Errorf("%s: not %v", name, c.want)
		}
	}
	for _, e := range samples() {
		if e.Seq == 7 && IsWrite(api.Write{Key: e.Key, Del: e.Del, Value: e.Value}) != isOf(e) {
			t.Errorf("%v: not %v", e, isOf(e))
		}
	}
}

func TestIs(t *testing.T) { // P6.1
	for seq, want := range map[int]bool{math.MinInt: false, -1000000: false, -1: false, 0: false, 1: true, 2: true, 500000: true,
		999999: true, 1000000: true, 1000001: false, 1<<32 + 1: false, math.MaxInt: false} {
		for _, e := range []api.Entry{putOf("a", seq, "x"), putOf("a", seq, ""), delOf("a", seq)} {
			if Is(e) != want {
				t.Errorf("%v: not %v", e, want)
			}
		}
		for _, e := range []api.Entry{putOf("", seq, "x"), putOf("a", seq, strings.Repeat("v", 25)), {Key: "a", Seq: seq, Del: true, Value: "x"}} {
			if Is(e) {
				t.Errorf("%v: it is", e)
			}
		}
	}
	for _, e := range samples() {
		if Is(e) != isOf(e) {
			t.Errorf("%v: not %v", e, isOf(e))
		}
	}
	if Is(api.Entry{}) {
		t.Error("nothing: it is")
	}
}

func TestLess(t *testing.T) { // P6.1
	rising := []api.Entry{putOf("", 1, ""), putOf("\x00", 1, ""), delOf("\x00\x00", 5), putOf("A", 3, ""), putOf("a", math.MaxInt, ""), putOf("a", 9, "x"), delOf("a", 2),
		putOf("a", 0, "x"), putOf("a", -3, ""), putOf("a", math.MinInt, ""), putOf("a\x00", 99, ""), putOf("aa", 5, ""), putOf("ab", 1, ""), putOf("a\xff", 1, ""), putOf("b", 300, ""),
		putOf("b", 1, ""), putOf("\x7f\xff", 1, ""), putOf("\x80", 1, ""), putOf("\xc3\xa1", 1, ""), putOf("\xff", 1, ""), putOf("\xff\x00", 1, "")}
	for i, a := range rising {
		for j, b := range rising {
			if Less(a, b) != (i < j) {
				t.Errorf("%v, %v: not %v", a, b, i < j)
			}
		}
	}
	all := samples()
	for i := 0; i < len(all); i += 7 {
		for j := 0; j < len(all); j += 11 {
			if Less(all[i], all[j]) != (orderOf(all[i], all[j]) < 0) {
				t.Errorf("%v, %v", all[i], all[j])
			}
		}
	}
}

func TestLessLooksAtKeyAndSeqAlone(t *testing.T) { // P6.1
	alike := []api.Entry{putOf("a", 4, ""), putOf("a", 4, "x"), delOf("a", 4), {Key: "a", Seq: 4, Del: true, Value: "z"}}
	for _, a := range alike {
		for _, b := range alike {
			if Less(a, b) {
				t.Errorf("%v, %v", a, b)
			}
		}
	}
}

func TestSorted(t *testing.T) { // P6.1
	good := []api.Entry{putOf("a", 9, "x"), delOf("a", 2), putOf("aa", 5, ""), putOf("b", 3, "y"), delOf("b", 2), putOf("b", 1, "z")}
	for from := range good {
		for to := from; to <= len(good); to++ {
			if !Sorted(good[from:to]) {
				t.Errorf("%v: not sorted", good[from:to])
			}
		}
	}
	if !Sorted(nil) || !Sorted([]api.Entry{}) || !Sorted([]api.Entry{{}}) || !Sorted([]api.Entry{putOf("a", -1, ""), putOf("a", -2, "")}) {
		t.Error("none, or some that aren't Is: not sorted")
	}
	for i := range good {
		for j := range i {
			l := slices.Clone(good)
			l[i], l[j] = l[j], l[i]
			if Sorted(l) {
				t.Errorf("%v: sorted", l)
			}
			l = slices.Clone(good)
			l[i] = putOf(l[j].Key, l[j].Seq, "other")
			if Sorted(l) {
				t.Errorf("%v: sorted", l)
			}
		}
		if l := slices.Insert(slices.Clone(good), i, good[i]); Sorted(l) {
			t.Errorf("%v: sorted, one twice", l)
		}
	}
	if Sorted([]api.Entry{putOf("a", 1, ""), putOf("a", 2, "")}) {
		t.Error("the greater Seq behind: sorted")
	}
}

func TestBytes(t *testing.T) { // P6.1
	thirteen, long := strings.Repeat("k", 13), strings.Repeat("v", 24)
	for want, e := range map[string]api.Entry{
		"\x01\x01a\x01\x01\x00\x00":                                        putOf("a", 1, ""),
		"\x01\x01a\x01\x01\x01":                                            delOf("a", 1),
		"\x01\x02ab\x02\x01\x2c\x00\x01\x01x":                              putOf("ab", 300, "x"),
		"\x01\x02\x00\xff\x03\x0f\x42\x40\x00\x01\x02\x01\x00":             putOf("\x00\xff", 1000000, "\x01\x00"),
		"\x01\x0d" + thirteen + "\x01\xff\x00\x01\x18" + long:              putOf(thirteen, 255, long),
		"\x01\x0d" + thirteen + "\x03\x0f\x42\x40\x01":                     delOf(thirteen, 1000000),
		cell.Text("key") + cell.Num(12345) + "\x00" + cell.Text("a value"): putOf("key", 12345, "a value"),
	} {
		if got := Bytes(e); got != want {
			t.Errorf("%v: %q, not %q", e, got, want)
		}
	}
	for _, e := range samples() {
		want := ""
		if isOf(e) {
			want = layOf(e)
		}
		if got := Bytes(e); got != want {
			t.Errorf("%v: %q, not %q", e, got, want)
		}
	}
	if got := Bytes(api.Entry{}); got != "" {
		t.Errorf("of nothing: %q", got)
	}
}

func TestRead(t *testing.T) { // P6.2
	for _, e := range samples() {
		if !isOf(e) {
			continue
		}
		s := layOf(e)
		for _, behind := range []string{"", "\x00", "\x01", "\xff", s, "behind"} {
			if got, n, err := Read(s + behind); got != e || n != len(s) || err != api.OK {
				t.Errorf("%v, %q behind: %v, %d, %v", e, behind, got, n, err)
			}
		}
		for at := range s {
			if got, n, err := Read(s[:at]); got != (api.Entry{}) || n != 0 || err != api.ErrShort {
				t.Errorf("%v, cut at %d: %v, %d, %v", e, at, got, n, err)
			}
		}
	}
}

func TestReadErrs(t *testing.T) { // P6.2
	key, seq := cell.Text("a"), cell.Num(1)
	long := cell.Text(strings.Repeat("k", 14))
	for name, c := range map[string]struct {
		s    string
		want api.Errno
	}{
		"no byte":                            {"", api.ErrShort},
		"a Key that is no text":              {"\x09", api.ErrForm},
		"a Key with a 0 ahead":               {"\x02\x00\x01a" + seq + "\x01", api.ErrForm},
		"a Key of which bytes lack":          {"\x01\x05abcd", api.ErrShort},
		"a Key of the greatest int":          {cell.Num(math.MaxInt) + "abcd", api.ErrShort},
		"no Seq":                             {key, api.ErrShort},
		"a Seq that is no number":            {key + "\x09", api.ErrForm},
		"a Seq with a 0 ahead":               {key + "\x01\x00\x01", api.ErrForm},
		"a Seq of which bytes lack":          {key + "\x02\x01", api.ErrShort},
		"a Seq that is no int":               {key + "\x08\x80\x00\x00\x00\x00\x00\x00\x00\x01", api.ErrForm},
		"no byte behind Seq":                 {key + seq, api.ErrShort},
		"a byte that is neither":             {key + seq + "\x02", api.ErrForm},
		"neither, a text behind":             {key + seq + "\x02\x01\x01x", api.ErrForm},
		"neither, the highest":               {key + seq + "\xff", api.ErrForm},
		"neither, though a numeral":          {key + seq + "1", api.ErrForm},
		"no Value":                           {key + seq + "\x00", api.ErrShort},
		"a Value that is no text":            {key + seq + "\x00\x09", api.ErrForm},
		"a Value with a 0 ahead":             {key + seq + "\x00\x01\x00", api.ErrForm},
		"a Value of which bytes lack":        {key + seq + "\x00\x01\x02x", api.ErrShort},
		"an empty Key":                       {cell.Text("") + seq + "\x01", api.ErrForm},
		"an empty Key, put":                  {cell.Text("") + seq + "\x00\x00", api.ErrForm},
		"a long Key":                         {long + seq + "\x01", api.ErrForm},
		"a long Key, put":                    {long + seq + "\x00\x00", api.ErrForm},
		"Seq 0":                              {key + cell.Num(0) + "\x01", api.ErrForm},
		"Seq above MaxSeq":                   {key + cell.Num(1000001) + "\x01", api.ErrForm},
		"Seq the greatest int":               {key + cell.Num(math.MaxInt) + "\x00\x00", api.ErrForm},
		"a long Value":                       {key + seq + "\x00" + cell.Text(strings.Repeat("v", 25)), api.ErrForm},
		"a long Key, no Seq":                 {long, api.ErrShort},
		"a long Key, no byte behind Seq":     {long + seq, api.ErrShort},
		"a long Key, no Value":               {long + seq + "\x00", api.ErrShort},
		"a long Key, a Value that lacks":     {long + seq + "\x00\x01\x02x", api.ErrShort},
		"an empty Key alone":                 {cell.Text(""), api.ErrShort},
		"Seq 0, no byte behind":              {key + cell.Num(0), api.ErrShort},
		"Seq 0, no Value":                    {key + cell.Num(0) + "\x00", api.ErrShort},
		"a long Value of which bytes lack":   {key + seq + "\x00" + cell.Num(25) + "v", api.ErrShort},
		"a long Key, a byte that is neither": {long + seq + "\x02", api.ErrForm},
	} {
		if e, n, err := Read(c.s); e != (api.Entry{}) || n != 0 || err != c.want {
			t.Errorf("%s: %v, %d, %v", name, e, n, err)
		}
		holdRead(t, c.s)
	}
}

func TestReadOfWhatIsNot(t *testing.T) { // P6.2: laid out well, but no entry, whole or cut
	for _, e := range samples() {
		if isOf(e) || e.Seq < 0 || e.Del && e.Value != "" {
			continue
		}
		s := layOf(e)
		if got, n, err := Read(s + "behind"); got != (api.Entry{}) || n != 0 || err != api.ErrForm {
			t.Errorf("%v: %v, %d, %v", e, got, n, err)
		}
		for at := range s {
			if got, n, err := Read(s[:at]); got != (api.Entry{}) || n != 0 || err != api.ErrShort {
				t.Errorf("%v, cut at %d: %v, %d, %v", e, at, got, n, err)
			}
		}
	}
}

func TestReadOfChangedBytes(t *testing.T) { // P6.2: each byte turned to every other one, and then cut
	for _, e := range []api.Entry{putOf("a", 1, "x"), putOf("ab", 300, ""), delOf("k", 1000000), putOf(strings.Repeat("k", 13), 77, strings.Repeat("v", 24))} {
		s := []byte(layOf(e))
		for i, was := range s {
			for c := range 256 {
				s[i] = byte(c)
				for _, end := range []int{i + 1, (i + len(s)) / 2, len(s) - 1, len(s)} {
					holdRead(t, string(s[:end]))
				}
				holdRead(t, string(s)+strings.Repeat("\x01", 300))
			}
			s[i] = was
		}
	}
}

func TestReadOfAllShortTexts(t *testing.T) { // P6.2: of these bytes, up to 7 of them, and so behind a Key and a Seq
	some := []byte{0, 1, 2, 9, 0xff}
	var hold func(s string, left int)
	hold = func(s string, left int) {
		holdRead(t, s)
		if left == 0 {
			return
		}
		for _, c := range some {
			hold(s+string([]byte{c}), left-1)
		}
	}
	hold("", 7)
	hold(cell.Text("key"), 5)
	hold(cell.Text("key")+cell.Num(1000000), 5)
}

func TestPutIsRead(t *testing.T) { // P6.1, P6.2: a row of entries, one behind the other
	var good []api.Entry
	var s strings.Builder
	for _, e := range samples() {
		if Is(e) {
			good = append(good, e)
			s.WriteString(Bytes(e))
		}
	}
	left := s.String()
	for i, want := range good {
		e, n, err := Read(left)
		if e != want || err != api.OK {
			t.Fatalf("%d: %v, %v, not %v", i, e, err, want)
		}
		left = left[n:]
	}
	if left != "" {
		t.Errorf("left: %.40q", left)
	}
}

func TestNewest(t *testing.T) { // P6.3, P6.4
	l := []api.Entry{putOf("a", 9, "x"), delOf("a", 2), putOf("aa", 5, ""), putOf("b", 3, "y"), delOf("b", 2), putOf("b", 1, "z"), putOf("d", 1000000, "w")}
	for name, c := range map[string]struct {
		key       string
		seq, want int // want: -1, if there is none
	}{
		"the example":                {"b", 2, 4},
		"all seen":                   {"a", 1000000, 0},
		"the greatest int":           {"a", math.MaxInt, 0},
		"up to the newest itself":    {"a", 9, 0},
		"right below the newest":     {"a", 8, 1},
		"up to one with Del":         {"a", 2, 1},
		"below all of that Key":      {"a", 1, -1},
		"a Key with another's front": {"aa", 100, 2},
		"the last of a Key":          {"b", 1, 5},
		"up to 0":                    {"b", 0, -1},
		"up to less than 0":          {"b", math.MinInt, -1},
		"a Key between two":          {"c", 1000000, -1},
		"another between two":        {"a\x00", 1000000, -1},
		"the last one":               {"d", 1000000, 6},
		"below the last one":         {"d", 999999, -1},
		"a Key ahead of all":         {"A", 1000000, -1},
		"a Key behind all":           {"e", 1000000, -1},
		"no Key":                     {"", 1000000, -1},
		"a large Key":                {strings.Repeat("a", 1<<20), 1000000, -1},
	} {
		var want api.Entry
		if c.want >= 0 {
			want = l[c.want]
		}
		if e, ok := Newest(l, c.key, c.seq); e != want || ok != (c.want >= 0) {
			t.Errorf("%s: %v, %v", name, e, ok)
		}
		holdNewest(t, l, c.key, c.seq)
	}
	if e, ok := Newest(nil, "a", 9); ok || e != (api.Entry{}) {
		t.Errorf("of none: %v, %v", e, ok)
	}
	if e, ok := Newest([]api.Entry{}, "", 0); ok || e != (api.Entry{}) {
		t.Errorf("of an empty one: %v, %v", e, ok)
	}
}

func TestNewestOfUnsorted(t *testing.T) { // P6.3
	l := []api.Entry{putOf("a", 9, "x"), delOf("a", 2), putOf("b", 3, "y"), putOf("c", 1, "z")}
	for i := range l {
		for j := range i {
			bad := slices.Clone(l)
			bad[i], bad[j] = bad[j], bad[i]
			for _, key := range []string{"a", "b", "c"} {
				if e, ok := Newest(bad, key, 9); ok || e != (api.Entry{}) {
					t.Errorf("%s of %v: %v", key, bad, e)
				}
			}
		}
		twice := slices.Insert(slices.Clone(l), i, l[i])
		if e, ok := Newest(twice, "a", 9); ok || e != (api.Entry{}) {
			t.Errorf("of %v: %v", twice, e)
		}
	}
}

func TestNewestOfWhatIsNot(t *testing.T) { // P6.3: Sorted doesn't ask that each one Is
	l := []api.Entry{{}, putOf("", -5, "x"), putOf("a", 0, "y"), {Key: "a", Seq: -1, Del: true, Value: "z"}, putOf("a", math.MinInt, ""), putOf(strings.Repeat("k", 20), math.MaxInt, "")}
	for _, e := range l {
		for _, seq := range seqs() {
			holdNewest(t, l, e.Key, seq)
		}
		holdNewest(t, l, e.Key, e.Seq)
	}
	if e, ok := Newest(l, "", 0); !ok || e != (api.Entry{}) {
		t.Errorf("the first: %v, %v", e, ok)
	}
}

func TestNewestOfAllShortRows(t *testing.T) { // P6.3: of these entries, up to 4 of them, in any order, of any Key, up to any Seq
	some := []api.Entry{putOf("a", 3, "x"), delOf("a", 2), putOf("a", 1, "y"), putOf("aa", 2, ""), putOf("b", 2, "z"), delOf("b", 1)}
	var hold func(l []api.Entry)
	hold = func(l []api.Entry) {
		for _, key := range []string{"", "a", "aa", "ab", "b", "c"} {
			for seq := range 5 {
				holdNewest(t, l, key, seq)
			}
		}
		if len(l) == 4 {
			return
		}
		for _, e := range some {
			hold(append(slices.Clone(l), e))
		}
	}
	hold(nil)
}
