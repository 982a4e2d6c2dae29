package batch

import (
	"bytes"
	"encoding/binary"
	"fmt"
	"hash/adler32"
	"math"
	"slices"
	"sort"
	"strings"
	"testing"

	"ravelin/api"
	"ravelin/cell"
	"ravelin/seal"
)

// putOf tells a write with a Value.
func putOf(key, value string) api.Write { return api.Write{Key: key, Value: value} }

// delOf tells a write with Del.
func delOf(key string) api.Write { return api.Write{Key: key, Del: true} }

// number tells a number as a cell.
func number(n int) string {
	digits := bytes.TrimLeft(binary.BigEndian.AppendUint64(nil, uint64(n)), "\x00")
	return string([]byte{byte(len(digits))}) + string(digits)
}

// text tells a text as a cell.
func text(s string) string { return number(len(s)) + s }

// sealOf seals a text.
func sealOf(s string) string {
	return number(len(s)) + string(binary.BigEndian.AppendUint32(nil, adler32.Checksum([]byte(s)))) + s
}

// piece lays one write out by the words of P12.1, whether it is one or not.
func piece(w api.Write) string {
	if w.Del {
		return text(w.Key) + "\x01"
	}
	return text(w.Key) + "\x00" + text(w.Value)
}

// layOf lays a batch out by the words of P12.1, not sealed, whether it is one or not (seq not below 0).
func layOf(seq int, l []api.Write) string {
	s := number(seq) + number(len(l))
	for _, w := range l {
		s += piece(w)
	}
	return s
}

// isOf works out Is by the words of P12.1.
func isOf(l []api.Write) bool {
	good := len(l) <= 8
	for i, w := range l {
		good = good && 1 <= len(w.Key) && len(w.Key) <= 13 && len(w.Value) <= 24 && (!w.Del || w.Value == "")
		good = good && (i == 0 || bytes.Compare([]byte(l[i-1].Key), []byte(w.Key)) < 0)
	}
	return good
}

// neatOf works out Neat by the words of P12.1.
func neatOf(l []api.Write) []api.Write {
	var keys []string
	last := map[string]api.Write{}
	for _, w := range l {
		if _, ok := last[w.Key]; !ok {
			keys = append(keys, w.Key)
		}
		last[w.Key] = w
	}
	sort.Strings(keys)
	var neat []api.Write
	for _, key := range keys {
		neat = append(neat, last[key])
	}
	return neat
}

// bytesOf works out Bytes by the words of P12.1.
func bytesOf(seq int, l []api.Write) (string, api.Errno) {
	if !isOf(l) || seq < 1 || seq > 1000000 {
		return "", api.ErrForm
	}
	return sealOf(layOf(seq, l)), api.OK
}

// readOf works out Read by the words of P12.1: all that can be taken of what was opened is taken, and laid out again.
func readOf(s string) (int, []api.Write, int, api.Errno) {
	opened, size, err := seal.Open(s)
	if err != api.OK {
		return 0, nil, 0, err
	}
	left, good := opened, true
	num := func() int {
		n, k, err := cell.TakeNum(left)
		left, good = left[k:], good && err == api.OK
		return n
	}
	word := func() string {
		x, k, err := cell.TakeText(left)
		left, good = left[k:], good && err == api.OK
		return x
	}
	seq, many := num(), num()
	var l []api.Write
	for good && len(l) < many && left != "" {
		w := api.Write{Key: word()}
		if good && left != "" {
			w.Del, left = left[0] == 1, left[1:]
			if !w.Del {
				w.Value = word()
			}
		}
		l = append(l, w)
	}
	if made, err := bytesOf(seq, l); err != api.OK || made != sealOf(opened) {
		return 0, nil, 0, api.ErrForm
	}
	return seq, l, size, api.OK
}

// logOf works out Log by the words of P12.2.
func logOf(s string) ([]api.Entry, int, int) {
	var l []api.Entry
	seq, took := 0, 0
	for first := true; ; first = false {
		next, writes, size, err := readOf(s[took:])
		if err != api.OK || !first && next != seq+1 {
			return l, seq, took
		}
		for _, w := range writes {
			l = append(l, api.Entry{Key: w.Key, Seq: next, Del: w.Del, Value: w.Value})
		}
		seq, took = next, took+size
	}
}

// holdRead holds Read of bytes against the words.
func holdRead(t *testing.T, s string) {
	t.Helper()
	seq, l, size, err := Read(s)
	if wseq, wl, wsize, werr := readOf(s); seq != wseq || !slices.Equal(l, wl) || size != wsize || err != werr {
		t.Errorf("%.80q: %d, %v, %d, %v, not %d, %v, %d, %v", s, seq, l, size, err, wseq, wl, wsize, werr)
	}
}

// holdWrites holds all that is told of writes against the words, and that what is handed in isn't changed.
func holdWrites(t *testing.T, l []api.Write) {
	t.Helper()
	was := slices.Clone(l)
	if Is(l) != isOf(l) {
		t.Errorf("%v: Is not %v", l, isOf(l))
	}
	if got, want := Neat(l), neatOf(l); !slices.Equal(got, want) {
		t.Errorf("%v: Neat %v, not %v", l, got, want)
	}
	s, err := Bytes(7, l)
	if want, werr := bytesOf(7, l); s != want || err != werr {
		t.Errorf("%v: %q, %v, not %q, %v", l, s, err, want, werr)
	}
	holdEntries(t, 7, l)
	if err == api.OK {
		if seq, got, size, err := Read(s); seq != 7 || !slices.Equal(got, l) || size != len(s) || err != api.OK {
			t.Errorf("%v: read as %d, %v, %d, %v", l, seq, got, size, err)
		}
	}
	if !slices.Equal(l, was) {
		t.Errorf("%v, not %v any more", l, was)
	}
}

// holdEntries holds Entries of writes against the words of P12.2.
func holdEntries(t *testing.T, seq int, l []api.Write) {
	t.Helper()
	var want []api.Entry
	for _, w := range l {
		if isOf(l) {
			want = append(want, api.Entry{Key: w.Key, Seq: seq, Del: w.Del, Value: w.Value})
		}
	}
	if got := Entries(seq, l); !slices.Equal(got, want) {
		t.Errorf("%d, %v: %v, not %v", seq, l, got, want)
	}
}

// holdLog holds Log of bytes against the words.
func holdLog(t *testing.T, s string) {
	t.Helper()
	l, last, took := Log(s)
	if wl, wlast, wtook := logOf(s); !slices.Equal(l, wl) || last != wlast || took != wtook {
		t.Errorf("%.80q: %v, %d, %d, not %v, %d, %d", s, l, last, took, wl, wlast, wtook)
	}
}

// example tells a batch of plain writes.
func example() []api.Write {
	return []api.Write{putOf("a", "xy"), delOf("b"), putOf("ba", ""), putOf("c\x00", "\xff\x01")}
}

// largest tells as many writes as a batch has at most, of the longest Keys and Values.
func largest() []api.Write {
	var l []api.Write
	for i := range 8 {
		l = append(l, putOf(strings.Repeat("k", 12)+string([]byte{byte('a' + i)}), strings.Repeat("v", 24)))
	}
	return l
}

// bad tells writes that are none.
func bad() []api.Write {
	return []api.Write{{}, putOf("", "x"), delOf(""), putOf(strings.Repeat("k", 14), ""), delOf(strings.Repeat("k", 14)), putOf("k", strings.Repeat("v", 25)),
		{Key: "k", Del: true, Value: "x"}, {Key: "k", Del: true, Value: "\x00"}, {Del: true, Value: "x"}, putOf(strings.Repeat("k", 1<<16), strings.Repeat("v", 1<<16)), putOf(strings.Repeat("á", 7), ""), putOf("k", strings.Repeat("á", 13))}
}

// seqs tells numbers about the edges, and where a cell has a byte more.
func seqs() []int {
	return []int{math.MinInt, math.MinInt32, -1000000, -1, 0, 1, 2, 127, 128, 255, 256, 65535, 65536, 999999, 1000000, 1000001, 1 << 24, 1 << 32, 1<<32 + 1, math.MaxInt - 1, math.MaxInt}
}

// eachList tells all lists of these writes, up to that many of them, in any order.
func eachList(some []api.Write, most int, tell func([]api.Write)) {
	var from func(l []api.Write)
	from = func(l []api.Write) {
		tell(l)
		if len(l) == most {
			return
		}
		for _, w := range some {
			from(append(slices.Clone(l), w))
		}
	}
	from(nil)
}

// made tells Bytes of a batch that is one.
func made(t *testing.T, seq int, l ...api.Write) string {
	t.Helper()
	s, err := Bytes(seq, l)
	if err != api.OK {
		t.Fatalf("%d, %v: %v", seq, l, err)
	}
	return s
}

func TestIs(t *testing.T) { // P12.1
	nine := append([]api.Write{delOf("a")}, largest()...)
	for name, c := range map[string]struct {
		l    []api.Write
		want bool
	}{
		"none (the chapter's example)": {nil, true},
		"an empty one":                 {[]api.Write{}, true},
		"one":                          {[]api.Write{putOf("a", "x")}, true},
		"one with Del":                 {[]api.Write{delOf("a")}, true},
		"some":                         {example(), true},
		"as many as there may be":      {largest(), true},
		"one more, ahead":              {nine, false},
		"one more, behind":             {append(largest(), putOf("z", "")), false},
		"one of a Key twice":           {[]api.Write{putOf("a", "x"), putOf("a", "y")}, false},
		"Del behind of that Key":       {[]api.Write{putOf("a", "x"), delOf("a")}, false},
		"Keys that fall":               {[]api.Write{putOf("b", "x"), putOf("a", "x")}, false},
		"that fall at the end":         {append(example(), putOf("bb", "")), false},
		"longer behind shorter":        {[]api.Write{putOf("a", ""), putOf("a\x00", ""), putOf("aa", "")}, true},
		"shorter behind longer":        {[]api.Write{putOf("aa", ""), putOf("a", "")}, false},
		"bytes, not runes or signs":    {[]api.Write{putOf("\x00", ""), putOf("\x7f", ""), putOf("\x80", ""), putOf("á", ""), putOf("\xff", "")}, true},
	} {
		if Is(c.l) != c.want {
			t.Errorf("%s: not %v", name, c.want)
		}
		holdWrites(t, c.l)
	}
	for _, w := range bad() {
		for i := range len(example()) + 1 {
			l := slices.Insert(example(), i, w)
			if Is(l) {
				t.Errorf("%.200v: it is", l)
			}
			slices.SortFunc(l, func(a, b api.Write) int { return strings.Compare(a.Key, b.Key) })
			if Is(l) || Is([]api.Write{w}) {
				t.Errorf("%.200v: it is", l)
			}
			holdWrites(t, l)
		}
	}
	for i := range largest() {
		holdWrites(t, largest()[i:])
		holdWrites(t, nine[:i])
		holdWrites(t, slices.Insert(largest(), i, largest()[i]))
	}
}

func TestAllShortLists(t *testing.T) { // P12.1, P12.2: of these writes, up to 4 of them, in any order
	eachList([]api.Write{putOf("a", "x"), delOf("a"), putOf("aa", ""), putOf("b", "y"), putOf("\xff", "z"), {}, {Key: "b", Del: true, Value: "x"}}, 4, func(l []api.Write) { holdWrites(t, l) })
}

func TestNeat(t *testing.T) { // P12.1
	long := strings.Repeat("k", 100)
	for name, c := range map[string]struct{ l, want []api.Write }{
		"none":                   {nil, nil},
		"an empty one":           {[]api.Write{}, nil},
		"one":                    {[]api.Write{putOf("a", "x")}, []api.Write{putOf("a", "x")}},
		"a batch":                {example(), example()},
		"of each Key the last":   {[]api.Write{putOf("b", "1"), putOf("a", "2"), delOf("b"), putOf("c", "3"), putOf("b", "4"), delOf("a")}, []api.Write{delOf("a"), putOf("b", "4"), putOf("c", "3")}},
		"Del behind":             {[]api.Write{putOf("a", "x"), putOf("a", "y"), delOf("a")}, []api.Write{delOf("a")}},
		"Del ahead":              {[]api.Write{delOf("a"), putOf("a", "y"), putOf("a", "x")}, []api.Write{putOf("a", "x")}},
		"the least isn't taken":  {[]api.Write{putOf("a", "1"), putOf("a", "3"), putOf("a", "2")}, []api.Write{putOf("a", "2")}},
		"what is no write stays": {[]api.Write{putOf(long, long), {}, {Key: "a", Del: true, Value: "x"}, {Value: long}}, []api.Write{{Value: long}, {Key: "a", Del: true, Value: "x"}, putOf(long, long)}},
		"also behind one":        {[]api.Write{putOf("a", "x"), putOf("a", long)}, []api.Write{putOf("a", long)}},
		"byte by byte":           {[]api.Write{putOf("\xff", ""), putOf("á", ""), putOf("a\x00", ""), putOf("\x80", ""), putOf("a", ""), putOf("", "")}, []api.Write{putOf("", ""), putOf("a", ""), putOf("a\x00", ""), putOf("\x80", ""), putOf("á", ""), putOf("\xff", "")}},
	} {
		if got := Neat(c.l); !slices.Equal(got, c.want) {
			t.Errorf("%s: %v, not %v", name, got, c.want)
		}
		holdWrites(t, c.l)
	}
}

func TestNeatOfMany(t *testing.T) { // P12.1: however many, of few Keys and of many
	for _, keys := range []int{1, 2, 7, 8, 9, 500, 100000} {
		var l []api.Write
		at := uint32(1)
		for i := range 100000 {
			at = at*1664525 + 1013904223
			l = append(l, putOf(fmt.Sprint(int(at>>8)%keys), fmt.Sprint(i)))
			if at>>30 == 0 {
				l[i] = delOf(l[i].Key)
			}
		}
		if got := Neat(l); !slices.Equal(got, neatOf(l)) {
			t.Errorf("%d keys: %d of them", keys, len(got))
		}
	}
}

func TestBytes(t *testing.T) { // P12.1
	for want, c := range map[string]struct {
		seq int
		l   []api.Write
	}{
		"\x01\x01\x00": {1, nil},
		"\x01\x03\x01\x02\x01\x01a\x00\x01\x02xy\x01\x01b\x01": {3, []api.Write{putOf("a", "xy"), delOf("b")}},
		"\x02\x01\x2c\x01\x01\x01\x01k\x00\x00":                {300, []api.Write{putOf("k", "")}},
		"\x03\x0f\x42\x40\x01\x01\x01\x02\x00\xff\x01":         {1000000, []api.Write{delOf("\x00\xff")}},
	} {
		if got, err := Bytes(c.seq, c.l); got != sealOf(want) || err != api.OK {
			t.Errorf("%d, %v: %q, %v", c.seq, c.l, got, err)
		}
	}
	if got, err := Bytes(3, []api.Write{putOf("a", "xy"), delOf("b")}); got != "\x01\x10\x0a\x65\x01\xc4\x01\x03\x01\x02\x01\x01a\x00\x01\x02xy\x01\x01b\x01" || err != api.OK {
		t.Errorf("byte by byte: %q, %v", got, err)
	}
	for _, seq := range seqs() {
		for _, l := range [][]api.Write{nil, example(), largest(), {putOf("b", ""), putOf("a", "")}, {{}}} {
			s, err := Bytes(seq, l)
			if want, werr := bytesOf(seq, l); s != want || err != werr {
				t.Errorf("%d, %v: %q, %v, not %q, %v", seq, l, s, err, want, werr)
			}
		}
		if _, err := Bytes(seq, nil); (err == api.OK) != (1 <= seq && seq <= 1000000) {
			t.Errorf("%d: %v", seq, err)
		}
	}
}

func TestRead(t *testing.T) { // P12.1
	for _, seq := range []int{1, 255, 256, 65536, 999999, 1000000} {
		for _, l := range [][]api.Write{nil, {delOf("a")}, {putOf("a", "")}, example(), largest()} {
			s := made(t, seq, l...)
			for _, behind := range []string{"", "\x00", "\xff", "behind", sealOf("x"), s} {
				if got, writes, size, err := Read(s + behind); got != seq || !slices.Equal(writes, l) || size != len(s) || err != api.OK {
					t.Errorf("%d, %v, %.20q behind: %d, %v, %d, %v", seq, l, behind, got, writes, size, err)
				}
			}
			for at := range s {
				if got, writes, size, err := Read(s[:at]); got != 0 || len(writes) != 0 || size != 0 || err != api.ErrShort {
					t.Errorf("%d, %v, cut at %d: %d, %v, %d, %v", seq, l, at, got, writes, size, err)
				}
			}
		}
	}
}

func TestReadErrs(t *testing.T) { // P12.1
	good := made(t, 4, putOf("a", "x"))
	head := "\x01\x04\x01\x01"
	eight, nine := "", ""
	for i := range 9 {
		eight = nine
		nine += string([]byte{1, 1, byte('a' + i), 1})
	}
	for name, c := range map[string]struct {
		s    string
		want api.Errno
	}{
		"no byte":                         {"", api.ErrShort},
		"a byte less":                     {good[:len(good)-1], api.ErrShort},
		"its number alone":                {good[:2], api.ErrShort},
		"no number":                       {"\x09", api.ErrSpoilt},
		"a number with a 0 ahead":         {"\x02\x00" + good[1:], api.ErrSpoilt},
		"another Value":                   {good[:len(good)-1] + "y", api.ErrSpoilt},
		"another sum, and ill-formed":     {"\x01\x01\x00\x00\x00\x01\xff", api.ErrSpoilt},
		"nothing sealed":                  {sealOf(""), api.ErrForm},
		"a batch sealed twice":            {sealOf(good), api.ErrForm},
		"seq is no number":                {sealOf("\x09\x00"), api.ErrForm},
		"seq of which bytes lack":         {sealOf("\x02\x01"), api.ErrForm},
		"seq with a 0 ahead":              {sealOf("\x02\x00\x04\x00"), api.ErrForm},
		"seq alone":                       {sealOf("\x01\x04"), api.ErrForm},
		"seq 0":                           {sealOf("\x00\x00"), api.ErrForm},
		"seq 0, as a byte":                {sealOf("\x01\x00\x00"), api.ErrForm},
		"the greatest seq":                {sealOf("\x03\x0f\x42\x40\x00"), api.OK},
		"one more":                        {sealOf("\x03\x0f\x42\x41\x00"), api.ErrForm},
		"seq the greatest int":            {sealOf(number(math.MaxInt) + "\x00"), api.ErrForm},
		"seq no int":                      {sealOf("\x08\x80\x00\x00\x00\x00\x00\x00\x00\x00"), api.ErrForm},
		"none":                            {sealOf("\x01\x04\x00"), api.OK},
		"none, a byte behind":             {sealOf("\x01\x04\x00x"), api.ErrForm},
		"none, a write behind":            {sealOf("\x01\x04\x00\x01\x01a\x01"), api.ErrForm},
		"how many is no number":           {sealOf("\x01\x04\xff"), api.ErrForm},
		"how many has a 0 ahead":          {sealOf("\x01\x04\x02\x00\x01\x01\x01a\x01"), api.ErrForm},
		"how many, of which bytes lack":   {sealOf("\x01\x04\x01"), api.ErrForm},
		"one that lacks":                  {sealOf(head), api.ErrForm},
		"the second lacks":                {sealOf("\x01\x04\x01\x02\x01\x01a\x01"), api.ErrForm},
		"the greatest int of them":        {sealOf("\x01\x04" + number(math.MaxInt)), api.ErrForm},
		"the greatest int, one there":     {sealOf("\x01\x04" + number(math.MaxInt) + "\x01\x01a\x01"), api.ErrForm},
		"eight":                           {sealOf("\x01\x04\x01\x08" + eight), api.OK},
		"nine":                            {sealOf("\x01\x04\x01\x09" + nine), api.ErrForm},
		"nine, eight there":               {sealOf("\x01\x04\x01\x09" + eight), api.ErrForm},
		"eight, nine there":               {sealOf("\x01\x04\x01\x08" + nine), api.ErrForm},
		"a Key that is no text":           {sealOf(head + "\x09"), api.ErrForm},
		"a Key with a 0 ahead":            {sealOf(head + "\x02\x00\x01a\x01"), api.ErrForm},
		"a Key of which bytes lack":       {sealOf(head + "\x01\x05abcd"), api.ErrForm},
		"a Key of the greatest int":       {sealOf(head + number(math.MaxInt) + "abcd"), api.ErrForm},
		"no Key":                          {sealOf(head + "\x00\x01"), api.ErrForm},
		"the longest Key":                 {sealOf(head + "\x01\x0d" + strings.Repeat("k", 13) + "\x01"), api.OK},
		"a byte more of Key":              {sealOf(head + "\x01\x0e" + strings.Repeat("k", 14) + "\x01"), api.ErrForm},
		"a large Key":                     {sealOf(head + text(strings.Repeat("k", 1<<20)) + "\x01"), api.ErrForm},
		"no byte behind the Key":          {sealOf(head + "\x01\x01a"), api.ErrForm},
		"a byte that is neither":          {sealOf(head + "\x01\x01a\x02"), api.ErrForm},
		"neither, a Value behind":         {sealOf(head + "\x01\x01a\x02\x01\x01x"), api.ErrForm},
		"neither, the highest":            {sealOf(head + "\x01\x01a\xff"), api.ErrForm},
		"no Value":                        {sealOf(head + "\x01\x01a\x00"), api.ErrForm},
		"an empty Value":                  {sealOf(head + "\x01\x01a\x00\x00"), api.OK},
		"a Value that is no text":         {sealOf(head + "\x01\x01a\x00\x09"), api.ErrForm},
		"a Value with a 0 ahead":          {sealOf(head + "\x01\x01a\x00\x01\x00"), api.ErrForm},
		"a Value of which bytes lack":     {sealOf(head + "\x01\x01a\x00\x01\x02x"), api.ErrForm},
		"the longest Value":               {sealOf(head + "\x01\x01a\x00\x01\x18" + strings.Repeat("v", 24)), api.OK},
		"a byte more of Value":            {sealOf(head + "\x01\x01a\x00\x01\x19" + strings.Repeat("v", 25)), api.ErrForm},
		"a large Value":                   {sealOf(head + "\x01\x01a\x00" + text(strings.Repeat("v", 1<<20))), api.ErrForm},
		"a Value behind Del":              {sealOf(head + "\x01\x01a\x01\x01\x01x"), api.ErrForm},
		"an empty Value behind Del":       {sealOf(head + "\x01\x01a\x01\x00"), api.ErrForm},
		"a byte behind, sealed":           {sealOf(head + "\x01\x01a\x00\x00x"), api.ErrForm},
		"Keys that fall":                  {sealOf("\x01\x04\x01\x02\x01\x01b\x01\x01\x01a\x01"), api.ErrForm},
		"a Key twice":                     {sealOf("\x01\x04\x01\x02\x01\x01a\x01\x01\x01a\x00\x00"), api.ErrForm},
		"ill-formed, another one behind":  {sealOf("x") + good, api.ErrForm},
		"no Key, another one behind":      {sealOf(head+"\x00\x01") + good, api.ErrForm},
		"very many, of which all are":     {sealOf("\x01\x04" + number(1<<20) + strings.Repeat("\x00\x01", 1<<20)), api.ErrForm},
		"a good one, ill-formed behind":   {good + "\xff", api.OK},
		"a good one, a spoilt one behind": {good + sealOf("x")[:6], api.OK},
	} {
		seq, l, size, err := Read(c.s)
		if err != c.want || err != api.OK && (seq != 0 || len(l) != 0 || size != 0) {
			t.Errorf("%s: %d, %v, %d, %v", name, seq, l, size, err)
		}
		holdRead(t, c.s)
	}
}

func TestReadOfWhatIsNot(t *testing.T) { // P12.1: laid out well, but no batch
	for _, w := range bad() {
		if w.Del && w.Value != "" { // it can't be laid out
			continue
		}
		for i := range len(example()) + 1 {
			s := sealOf(layOf(4, slices.Insert(example(), i, w)))
			if seq, l, size, err := Read(s); seq != 0 || len(l) != 0 || size != 0 || err != api.ErrForm {
				t.Errorf("%.200v at %d: %d, %v, %d, %v", w, i, seq, l, size, err)
			}
		}
	}
	for i := range example() {
		for j := range i {
			l := example()
			l[i], l[j] = l[j], l[i]
			if seq, got, size, err := Read(sealOf(layOf(4, l))); seq != 0 || len(got) != 0 || size != 0 || err != api.ErrForm {
				t.Errorf("%v: %d, %v, %d, %v", l, seq, got, size, err)
			}
		}
	}
	for _, seq := range seqs() {
		if seq >= 0 {
			holdRead(t, sealOf(layOf(seq, nil)))
			holdRead(t, sealOf(layOf(seq, example())))
		}
	}
}

func TestReadOfChangedBytes(t *testing.T) { // P12.1, P12.3: each byte turned to every other one, sealed before and behind
	for _, l := range [][]api.Write{nil, {delOf("a")}, example(), largest()[:3]} {
		b := []byte(layOf(300, l))
		for i, was := range b {
			for c := range 256 {
				b[i] = byte(c)
				holdRead(t, sealOf(string(b)))
			}
			b[i] = was
			holdRead(t, sealOf(string(b[:i])))
			holdRead(t, sealOf(string(b[i:])))
			holdRead(t, sealOf(string(slices.Delete(slices.Clone(b), i, i+1))))
			holdRead(t, sealOf(string(slices.Insert(slices.Clone(b), i, 0))))
			holdRead(t, sealOf(string(slices.Insert(slices.Clone(b), i, was))))
		}
		s := []byte(sealOf(string(b)))
		for i, was := range s {
			for c := range 256 {
				s[i] = byte(c)
				holdRead(t, string(s))
				if _, got, _, err := Read(string(s)); byte(c) != was && (len(got) != 0 || err == api.OK) {
					t.Errorf("%q, byte %d changed to %d: %v, %v", s, i, c, got, err)
				}
			}
			s[i] = was
		}
	}
}

func TestReadOfAllShortTexts(t *testing.T) { // P12.1: of these bytes, up to 7 of them, and so behind a head, and behind a write
	some := []byte{0, 1, 2, 8, 'a'}
	var hold func(s string, left int)
	hold = func(s string, left int) {
		holdRead(t, sealOf(s))
		if left == 0 {
			return
		}
		for _, c := range some {
			hold(s+string([]byte{c}), left-1)
		}
	}
	hold("", 7)
	hold("\x01\x04\x01\x01", 6)
	hold("\x01\x04\x01\x02\x01\x01\x01\x01", 6)
}

func TestEntries(t *testing.T) { // P12.2
	if l := Entries(9, []api.Write{putOf("a", "xy"), delOf("b"), putOf("c", "")}); !slices.Equal(l, []api.Entry{{Key: "a", Seq: 9, Value: "xy"}, {Key: "b", Seq: 9, Del: true}, {Key: "c", Seq: 9}}) {
		t.Errorf("%v", l)
	}
	for _, seq := range seqs() { // it asks that the writes are a batch, not that seq is one's
		for _, l := range [][]api.Write{nil, {}, example(), largest(), largest()[3:], append(largest(), putOf("z", "")), {putOf("b", ""), putOf("a", "")}, {putOf("a", ""), putOf("a", "")}} {
			holdEntries(t, seq, l)
		}
		for _, w := range bad() {
			if l := Entries(seq, []api.Write{w}); len(l) != 0 {
				t.Errorf("%d, %.200v: %v", seq, w, l)
			}
		}
	}
}

func TestLog(t *testing.T) { // P12.2
	x, y, z := made(t, 5, putOf("a", "1")), made(t, 6), made(t, 7, delOf("a"), putOf("b", "2"))
	a, b := made(t, 999999, delOf("k")), made(t, 1000000, putOf("k", "last"))
	xs := []api.Entry{{Key: "a", Seq: 5, Value: "1"}}
	zs := []api.Entry{{Key: "a", Seq: 7, Del: true}, {Key: "b", Seq: 7, Value: "2"}}
	as := []api.Entry{{Key: "k", Seq: 999999, Del: true}, {Key: "k", Seq: 1000000, Value: "last"}}
	for name, c := range map[string]struct {
		s    string
		l    []api.Entry
		last int
		took int
	}{
		"nothing":                        {"", nil, 0, 0},
		"one":                            {x, xs, 5, len(x)},
		"one of nothing":                 {y, nil, 6, len(y)},
		"one of nothing, and one":        {y + z, zs, 7, len(y + z)},
		"three":                          {x + y + z, slices.Concat(xs, zs), 7, len(x + y + z)},
		"one lacks":                      {x + z, xs, 5, len(x)},
		"one lacks, then it comes":       {x + z + y, xs, 5, len(x)},
		"one twice":                      {x + x, xs, 5, len(x)},
		"one of nothing twice":           {y + y + z, nil, 6, len(y)},
		"an earlier one":                 {z + x, zs, 7, len(z)},
		"right behind the one ahead":     {z + y, zs, 7, len(z)},
		"the last ones that there are":   {a + b, as, 1000000, len(a + b)},
		"the first one behind the last":  {b + made(t, 1), as[1:], 1000000, len(b)},
		"the first one behind none":      {made(t, 1) + made(t, 2), nil, 2, len(made(t, 1) + made(t, 2))},
		"half of one":                    {x[:len(x)-1], nil, 0, 0},
		"half of the last one":           {x + y + z[:9], xs, 6, len(x + y)},
		"spoilt ahead":                   {"\x09" + x, nil, 0, 0},
		"a 0 in between":                 {x + "\x00" + y, xs, 5, len(x)},
		"spoilt in between":              {x + y[:len(y)-1] + "\x01" + z, xs, 5, len(x)},
		"ill-formed in between":          {x + sealOf("x") + y, xs, 5, len(x)},
		"ill-formed, the next in number": {x + sealOf("\x01\x06\x01\x01\x00\x01") + z, xs, 5, len(x)},
		"seq 0, then 1":                  {sealOf("\x00\x00") + made(t, 1), nil, 0, 0},
		"the last one, then one more":    {b + sealOf("\x03\x0f\x42\x41\x00"), as[1:], 1000000, len(b)},
		"bytes behind":                   {x + y + "behind", xs, 6, len(x + y)},
	} {
		if l, last, took := Log(c.s); !slices.Equal(l, c.l) || last != c.last || took != c.took {
			t.Errorf("%s: %v, %d, %d", name, l, last, took)
		}
		holdLog(t, c.s)
	}
}

func TestLogOfAllShortOnes(t *testing.T) { // P12.2: of these, up to 5 of them, in any order
	some := []string{made(t, 1, putOf("a", "1")), made(t, 2), made(t, 3, delOf("a"), putOf("b", "3")), made(t, 4, putOf("a", "4")), sealOf("x"), "\x09"}
	var hold func(s string, left int)
	hold = func(s string, left int) {
		holdLog(t, s)
		if left == 0 {
			return
		}
		for _, x := range some {
			hold(s+x, left-1)
		}
	}
	hold("", 5)
}

func TestAllOfABatchOrNone(t *testing.T) { // P12.3: a log that is cut, or of which a byte is changed
	lists := [][]api.Write{example(), nil, largest(), {delOf("a")}, {putOf("a", "z")}}
	log, ends := "", []int{0}
	var entries [][]api.Entry
	for i, l := range lists {
		log += made(t, 40+i, l...)
		ends = append(ends, len(log))
		entries = append(entries, Entries(40+i, l))
	}
	hold := func(s string, whole int, what string, at int) {
		t.Helper()
		last := 0
		if whole > 0 {
			last = 39 + whole
		}
		if l, seq, took := Log(s); !slices.Equal(l, slices.Concat(entries[:whole]...)) || seq != last || took != ends[whole] {
			t.Errorf("%s at %d: %v, %d, %d", what, at, l, seq, took)
		}
	}
	for at := range len(log) + 1 {
		whole := 0
		for whole < len(lists) && ends[whole+1] <= at {
			whole++
		}
		hold(log[:at], whole, "cut", at)
		hold(log[:at]+strings.Repeat("\xff", 300), whole, "cut, other bytes behind,", at)
		if at == len(log) {
			continue
		}
		for _, c := range []byte{1, 2, 0x80, 0xff} {
			b := []byte(log)
			b[at] ^= c
			hold(string(b), whole, "changed", at)
		}
	}
}

func TestLogOfMany(t *testing.T) { // P12.2: as many batches as a level has
	var log strings.Builder
	for seq := 1; seq <= 1000000; seq++ {
		var l []api.Write
		if seq%4 == 0 {
			l = []api.Write{putOf("k", "v")}
		}
		log.WriteString(made(t, seq, l...))
	}
	l, last, took := Log(log.String())
	if len(l) != 250000 || last != 1000000 || took != log.Len() {
		t.Errorf("%d, %d, %d", len(l), last, took)
	}
	for i, e := range l {
		if e != (api.Entry{Key: "k", Seq: 4 * (i + 1), Value: "v"}) {
			t.Fatalf("%d: %v", i, e)
		}
	}
}

func TestNothingHandedInIsChanged(t *testing.T) { // the room behind it too
	whole := append(example(), largest()...)
	slices.Reverse(whole)
	was := slices.Clone(whole)
	for size := range len(whole) + 1 {
		l := whole[:size]
		Is(l)
		Neat(l)
		Bytes(3, l)
		Entries(3, l)
		if !slices.Equal(whole, was) {
			t.Fatalf("%d of them: %v, not %v any more", size, whole, was)
		}
	}
}

func TestAnswersAreNew(t *testing.T) { // no answer is touched by what is done with another one, nor an argument by an answer
	l := example()
	s := made(t, 3, l...)
	writes := [][]api.Write{Neat(l), Neat(l)}
	entries := [][]api.Entry{Entries(3, l), Entries(3, l)}
	for range 2 {
		_, read, _, _ := Read(s)
		writes = append(writes, read)
		log, _, _ := Log(s)
		entries = append(entries, log)
	}
	for i := range writes {
		w, e := writes[i], entries[i]
		if !slices.Equal(w, l) || !slices.Equal(e, Entries(3, example())) {
			t.Errorf("%d: %v, %v", i, w, e)
		}
		clear(w[:cap(w)])
		clear(e[:cap(e)])
	}
	if !slices.Equal(l, example()) {
		t.Errorf("%v", l)
	}
}
