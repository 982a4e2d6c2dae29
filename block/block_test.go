package block

import (
	"bytes"
	"encoding/binary"
	"hash/adler32"
	"math"
	"slices"
	"strings"
	"testing"

	"ravelin/api"
	"ravelin/cell"
	"ravelin/seal"
)

// putOf tells an entry with a Value.
func putOf(key string, seq int, value string) api.Entry {
	return api.Entry{Key: key, Seq: seq, Value: value}
}

// delOf tells an entry with Del.
func delOf(key string, seq int) api.Entry { return api.Entry{Key: key, Seq: seq, Del: true} }

// isOf works out entry's Is by the words of its chapter.
func isOf(e api.Entry) bool {
	key := 1 <= len(e.Key) && len(e.Key) <= 13
	value := len(e.Value) <= 24 && (!e.Del || e.Value == "")
	return key && value && 1 <= e.Seq && e.Seq <= 1000000
}

// sharedOf works out Shared by the words of P8.1: the longest front of a with which b begins.
func sharedOf(a, b string) int {
	n := len(a)
	for !strings.HasPrefix(b, a[:n]) {
		n--
	}
	return n
}

// number tells a number as a cell.
func number(n int) string {
	digits := bytes.TrimLeft(binary.BigEndian.AppendUint64(nil, uint64(n)), "\x00")
	return string(append([]byte{byte(len(digits))}, digits...))
}

// piece tells an entry as bytes, as if that many bytes of its Key were shared.
func piece(e api.Entry, shared int) string {
	s := number(shared) + number(len(e.Key)-shared) + e.Key[shared:] + number(e.Seq)
	if e.Del {
		return s + "\x01"
	}
	return s + "\x00" + number(len(e.Value)) + e.Value
}

// layOf lays entries out by the words of P8.1, not sealed yet, whether they are good ones or not (no Seq below 0).
func layOf(l []api.Entry) string {
	var s strings.Builder
	for i, e := range l {
		if i == 0 {
			s.WriteString(piece(e, 0))
			continue
		}
		s.WriteString(piece(e, sharedOf(l[i-1].Key, e.Key)))
	}
	return s.String()
}

// sealOf seals bytes by the words of seal's chapter.
func sealOf(s string) string {
	return number(len(s)) + string(binary.BigEndian.AppendUint32(nil, adler32.Checksum([]byte(s)))) + s
}

// makeOf works out Make by the words of P8.1.
func makeOf(l []api.Entry) (string, api.Errno) {
	if len(l) == 0 || slices.ContainsFunc(l, func(e api.Entry) bool { return !isOf(e) }) {
		return "", api.ErrForm
	}
	for i := 1; i < len(l); i++ {
		a, b := l[i-1], l[i]
		if a.Key > b.Key || a.Key == b.Key && a.Seq <= b.Seq {
			return "", api.ErrOrder
		}
	}
	return sealOf(layOf(l)), api.OK
}

// readOf works out Read by the words of P8.2: whatever can be taken is, and then Make is asked of it.
func readOf(s string) ([]api.Entry, api.Errno) {
	text, n, err := seal.Open(s)
	if err != api.OK {
		return nil, err
	}
	if n != len(s) {
		return nil, api.ErrSpoilt
	}
	var l []api.Entry
	ok, ahead := true, ""
	num := func() int {
		n, k, err := cell.TakeNum(text)
		ok, text = ok && err == api.OK, text[k:]
		return n
	}
	str := func() string {
		x, k, err := cell.TakeText(text)
		ok, text = ok && err == api.OK, text[k:]
		return x
	}
	for ok && text != "" {
		shared, rest, seq := num(), str(), num()
		if ok = ok && shared <= len(ahead) && text != ""; !ok {
			break
		}
		e := api.Entry{Key: ahead[:shared] + rest, Seq: seq, Del: text[0] == 1}
		ok = text[0] <= 1
		text = text[1:]
		if !e.Del {
			e.Value = str()
		}
		l, ahead = append(l, e), e.Key
	}
	if made, err := makeOf(l); !ok || err != api.OK || made != s {
		return nil, api.ErrForm
	}
	return l, api.OK
}

// holdMake holds Make against the words, and that what is handed in isn't changed.
func holdMake(t *testing.T, l []api.Entry) {
	t.Helper()
	was := slices.Clone(l)
	s, err := Make(l)
	if ws, werr := makeOf(l); s != ws || err != werr {
		t.Errorf("%v: %.80q, %v, not %.80q, %v", l, s, err, ws, werr)
	}
	if !slices.Equal(l, was) {
		t.Errorf("%v any more, but %v", was, l)
	}
}

// holdRead holds Read of a text against the words.
func holdRead(t *testing.T, s string) {
	t.Helper()
	l, err := Read(s)
	if wl, werr := readOf(s); !slices.Equal(l, wl) || err != werr {
		t.Errorf("%.80q: %v, %v, not %v, %v", s, l, err, wl, werr)
	}
}

// holdBoth holds that a row is made by the words, and what is made is read.
func holdBoth(t *testing.T, l []api.Entry) {
	t.Helper()
	s, err := Make(l)
	if want := sealOf(layOf(l)); s != want || err != api.OK {
		t.Errorf("%v: %.80q, %v, not %.80q", l, s, err, want)
	}
	if got, err := Read(s); !slices.Equal(got, l) || err != api.OK {
		t.Errorf("%.80q: %v, %v, not %v", s, got, err, l)
	}
}

// example is a row with keys that share nothing, some, all, and go on behind.
func example() []api.Entry {
	return []api.Entry{putOf("car", 9, "x"), delOf("car", 2), putOf("card", 300, ""), delOf("care", 1000000), putOf("cb", 65536, "\x00\x01"), putOf("d", 1, "value")}
}

// longest is a row of which each one is as long as it may be, but for what is shared.
func longest() []api.Entry {
	key := strings.Repeat("k", 13)
	return []api.Entry{putOf(key, 1000000, strings.Repeat("v", 24)), putOf(key, 999999, strings.Repeat("\xff", 24)), delOf(key, 65536),
		putOf(strings.Repeat("k", 12)+"l", 1000000, strings.Repeat("\x00", 24)), putOf("l"+strings.Repeat("k", 12), 1000000, strings.Repeat("v", 24))}
}

// rows tells good rows of many kinds.
func rows() [][]api.Entry {
	list := [][]api.Entry{
		example(), longest(),
		{putOf("a", 1, "")}, {delOf("a", 1)}, {putOf("\x00", 255, "\x00")}, {putOf("\xff\xff", 256, "\xff")},
		{putOf("a", 2, "x"), putOf("a", 1, "x")},
		{delOf("\x00", 1), delOf("\x00\x00", 1), delOf("\x00\x00\x00", 1), delOf("\x01", 1)},
		{putOf("á", 5, "â"), putOf("â", 5, "á")},
	}
	var keys, seqs []api.Entry
	for size := range 13 {
		keys = append(keys, putOf(strings.Repeat("k", size+1), 7, strings.Repeat("v", 2*size)))
	}
	for _, seq := range []int{1000000, 65537, 65536, 65535, 257, 256, 255, 254, 2, 1} {
		seqs = append(seqs, delOf("key", seq))
	}
	var many []api.Entry
	for i := range 300 {
		many = append(many, putOf(string([]byte{'k', byte(i / 7), byte(i % 7)}), 1+i*i, strings.Repeat("v", i%25)))
	}
	return append(list, keys, seqs, many)
}

// bad tells entries that aren't Is, each in another way.
func bad() []api.Entry {
	long := strings.Repeat("k", 14)
	return []api.Entry{{}, putOf("", 1, "x"), delOf("", 1), putOf(long, 1, "x"), delOf(long, 1), putOf("b", 1, strings.Repeat("v", 25)), {Key: "b", Seq: 1, Del: true, Value: "x"},
		putOf("b", 0, "x"), delOf("b", 0), putOf("b", -1, "x"), delOf("b", math.MinInt), putOf("b", 1000001, "x"), delOf("b", math.MaxInt), putOf(strings.Repeat("k", 1<<20), 1, "")}
}

func TestShared(t *testing.T) { // P8.1
	large := strings.Repeat("x", 1<<20)
	for name, c := range map[string]struct {
		a, b string
		want int
	}{
		"the example":            {"abc", "abd", 2},
		"nothing":                {"", "", 0},
		"nothing of one":         {"", "abc", 0},
		"no byte":                {"abc", "xbc", 0},
		"alike only behind":      {"xyz", "ayz", 0},
		"alike again behind":     {"abcd", "axcd", 1},
		"all of the shorter one": {"ab", "abc", 2},
		"all":                    {"abc", "abc", 3},
		"bytes of 0":             {"\x00\x00", "\x00\x00\x00", 2},
		"the highest bytes":      {"\xff\xfe", "\xff\xff", 1},
		"small and great letter": {"abC", "abc", 2},
		"bytes, not runes":       {"á", "â", 1},
		"runes alike":            {"áx", "áy", 2},
		"broken runes":           {"\xc3\xc3", "\xc3\x28", 1},
		"large ones":             {large + "a", large + "b", 1 << 20},
		"a large one and itself": {large, large, 1 << 20},
	} {
		if got, back := Shared(c.a, c.b), Shared(c.b, c.a); got != c.want || back != c.want {
			t.Errorf("%s: %d, turned %d, not %d", name, got, back, c.want)
		}
	}
}

func TestSharedOfAllShortTexts(t *testing.T) { // P8.1
	texts := []string{""}
	for i := 0; i < len(texts) && len(texts[i]) < 4; i++ {
		for _, c := range []string{"\x00", "a", "\xff"} {
			texts = append(texts, texts[i]+c)
		}
	}
	for _, a := range texts {
		for _, b := range texts {
			if got, want := Shared(a, b), sharedOf(a, b); got != want {
				t.Errorf("%q, %q: %d, not %d", a, b, got, want)
			}
		}
	}
}

func TestMake(t *testing.T) { // P8.1
	thirteen, value := strings.Repeat("k", 13), strings.Repeat("v", 24)
	for want, l := range map[string][]api.Entry{
		"\x01\x08\x02\x01\x00\x66\x00\x01\x01a\x01\x01\x00\x00":                                              {putOf("a", 1, "")},
		sealOf("\x00\x01\x01a\x01\x01\x01"):                                                                  {delOf("a", 1)},
		sealOf("\x00\x01\x01a\x02\x01\x2c\x00\x01\x02x\x00"):                                                 {putOf("a", 300, "x\x00")},
		sealOf("\x00\x01\x0d" + thirteen + "\x03\x0f\x42\x40\x00\x01\x18" + value):                           {putOf(thirteen, 1000000, value)},
		sealOf("\x00\x01\x01a\x01\x02\x01" + "\x01\x01\x00\x01\x01\x01"):                                     {delOf("a", 2), delOf("a", 1)},
		sealOf("\x00\x01\x01a\x01\x01\x01" + "\x01\x01\x01\x01b\x01\x01\x01"):                                {delOf("a", 1), delOf("ab", 1)},
		sealOf("\x00\x01\x01a\x01\x01\x01" + "\x00\x01\x01b\x01\x01\x01"):                                    {delOf("a", 1), delOf("b", 1)},
		sealOf("\x00\x01\x01a\x01\x01\x01" + "\x01\x01\x01\x02bc\x01\x05\x00\x00"):                           {delOf("a", 1), putOf("abc", 5, "")},
		sealOf("\x00\x01\x02ab\x01\x01\x01" + "\x01\x01\x01\x01c\x01\x05\x00\x01\x01z"):                      {delOf("ab", 1), putOf("ac", 5, "z")},
		sealOf("\x00\x01\x02ab\x01\x01\x01" + "\x00\x01\x01b\x01\x01\x01\x01\x01\x01\x01b" + "\x01\x01\x01"): {delOf("ab", 1), delOf("b", 1), delOf("bb", 1)},
	} {
		if got, err := Make(l); got != want || err != api.OK {
			t.Errorf("%v: %q, %v, not %q", l, got, err, want)
		}
	}
	for _, l := range rows() {
		for size := 1; size <= len(l); size++ {
			holdMake(t, l[:size])
			holdMake(t, l[len(l)-size:])
		}
	}
}

func TestMakeErrs(t *testing.T) { // P8.1
	thirteen, value := strings.Repeat("k", 13), strings.Repeat("v", 24)
	for name, c := range map[string]struct {
		l    []api.Entry
		want api.Errno
	}{
		"none":                           {nil, api.ErrForm},
		"an empty list":                  {[]api.Entry{}, api.ErrForm},
		"nothing in it":                  {[]api.Entry{{}}, api.ErrForm},
		"no Key":                         {[]api.Entry{putOf("", 1, "x")}, api.ErrForm},
		"the longest Key":                {[]api.Entry{putOf(thirteen, 1, "x")}, api.OK},
		"a byte more of Key":             {[]api.Entry{putOf(thirteen+"k", 1, "x")}, api.ErrForm},
		"the longest Value":              {[]api.Entry{putOf("a", 1, value)}, api.OK},
		"a byte more of Value":           {[]api.Entry{putOf("a", 1, value+"v")}, api.ErrForm},
		"Seq 0":                          {[]api.Entry{putOf("a", 0, "x")}, api.ErrForm},
		"Seq below 0":                    {[]api.Entry{putOf("a", -1, "x")}, api.ErrForm},
		"the greatest Seq":               {[]api.Entry{putOf("a", 1000000, "x")}, api.OK},
		"one more":                       {[]api.Entry{putOf("a", 1000001, "x")}, api.ErrForm},
		"Del with a Value":               {[]api.Entry{{Key: "a", Seq: 1, Del: true, Value: "x"}}, api.ErrForm},
		"the greater Key ahead":          {[]api.Entry{putOf("b", 1, ""), putOf("a", 1, "")}, api.ErrOrder},
		"the longer Key ahead":           {[]api.Entry{putOf("ab", 1, ""), putOf("a", 1, "")}, api.ErrOrder},
		"the greater Seq behind":         {[]api.Entry{putOf("a", 1, ""), putOf("a", 2, "")}, api.ErrOrder},
		"one twice":                      {[]api.Entry{putOf("a", 1, ""), putOf("a", 1, "")}, api.ErrOrder},
		"one Key and Seq twice":          {[]api.Entry{putOf("a", 1, "x"), delOf("a", 1)}, api.ErrOrder},
		"the last two turned":            {[]api.Entry{putOf("a", 1, ""), putOf("c", 1, ""), putOf("b", 1, "")}, api.ErrOrder},
		"turned, and one that isn't Is":  {[]api.Entry{putOf("b", 1, ""), putOf("a", 1, ""), {}}, api.ErrForm},
		"one that isn't Is, and turned":  {[]api.Entry{putOf("", 1, ""), putOf("b", 1, ""), putOf("a", 1, "")}, api.ErrForm},
		"turned, the last one is no Seq": {[]api.Entry{putOf("b", 1, ""), putOf("a", 1000001, "")}, api.ErrForm},
	} {
		s, err := Make(c.l)
		if err != c.want || (s == "") != (c.want != api.OK) {
			t.Errorf("%s: %q, %v", name, s, err)
		}
		holdMake(t, c.l)
	}
}

func TestMakeErrsAtEachPlace(t *testing.T) { // P8.1
	good := example()
	for i := range good {
		for _, e := range bad() {
			for _, l := range [][]api.Entry{slices.Insert(slices.Clone(good), i, e), append(slices.Clone(good[:i+1]), e), slices.Replace(slices.Clone(good), i, i+1, e)} {
				if s, err := Make(l); s != "" || err != api.ErrForm {
					t.Errorf("%.200v: %q, %v", l, s, err)
				}
			}
		}
		for j := range i {
			l := slices.Clone(good)
			l[i], l[j] = l[j], l[i]
			if s, err := Make(l); s != "" || err != api.ErrOrder {
				t.Errorf("%v: %q, %v", l, s, err)
			}
		}
		if s, err := Make(slices.Insert(slices.Clone(good), i, good[i])); s != "" || err != api.ErrOrder {
			t.Errorf("%v twice: %q, %v", good[i], s, err)
		}
	}
}

func TestMakeOfAllShortRows(t *testing.T) { // P8.1: of these entries, up to 4 of them, in any order
	some := []api.Entry{putOf("a", 3, "x"), delOf("a", 2), putOf("aa", 2, ""), putOf("ab", 2, "z"), delOf("b", 1), putOf("b", 0, ""), putOf("", 1, "")}
	var hold func(l []api.Entry)
	hold = func(l []api.Entry) {
		holdMake(t, l)
		if len(l) == 4 {
			return
		}
		for _, e := range some {
			hold(append(slices.Clone(l), e))
		}
	}
	hold(nil)
}

func TestMakeChangesNothing(t *testing.T) { // what is handed in stays, the room behind it too
	whole := append(example(), longest()...)
	was := slices.Clone(whole)
	for size := range len(whole) + 1 {
		first, ferr := Make(whole[:size])
		if again, err := Make(whole[:size]); again != first || err != ferr {
			t.Errorf("%d of them: %q, %v, then %q, %v", size, first, ferr, again, err)
		}
	}
	if !slices.Equal(whole, was) {
		t.Errorf("%v, not %v any more", whole, was)
	}
}

func TestReadErrs(t *testing.T) { // P8.2
	a := "\x00\x01\x01a\x01\x05\x01"
	thirteen := strings.Repeat("k", 13)
	k := "\x00\x01\x0d" + thirteen + "\x01\x05\x01"
	good := sealOf(a)
	for name, c := range map[string]struct {
		s    string
		want api.Errno
	}{
		"no byte":                             {"", api.ErrShort},
		"a good one":                          {good, api.OK},
		"a byte less":                         {good[:len(good)-1], api.ErrShort},
		"its number alone":                    {good[:2], api.ErrShort},
		"a byte behind":                       {good + "x", api.ErrSpoilt},
		"a 0 behind":                          {good + "\x00", api.ErrSpoilt},
		"another one behind":                  {good + good, api.ErrSpoilt},
		"an ill-formed one, a byte behind":    {sealOf("\xff") + "x", api.ErrSpoilt},
		"nothing sealed, a byte behind":       {sealOf("") + "x", api.ErrSpoilt},
		"another sum":                         {"\x01\x07\x00\x00\x00\x01" + a, api.ErrSpoilt},
		"another sum, and ill-formed":         {"\x01\x01\x00\x00\x00\x01\xff", api.ErrSpoilt},
		"a length that is no number":          {"\x09" + good[1:], api.ErrSpoilt},
		"a length with a 0 ahead":             {"\x02\x00" + good[1:], api.ErrSpoilt},
		"nothing sealed":                      {sealOf(""), api.ErrForm},
		"sealed twice":                        {sealOf(good), api.ErrForm},
		"no shared":                           {sealOf("\x09"), api.ErrForm},
		"shared alone":                        {sealOf("\x00"), api.ErrForm},
		"shared with a 0 ahead":               {sealOf("\x01\x00" + a[1:]), api.ErrForm},
		"shared, of which bytes lack":         {sealOf(a + "\x02\x01"), api.ErrForm},
		"shared of the first one":             {sealOf("\x01\x01" + a[1:]), api.ErrForm},
		"shared of the first one, no rest":    {sealOf("\x01\x01\x00\x01\x05\x01"), api.ErrForm},
		"shared, the greatest int":            {sealOf(a + number(math.MaxInt) + "\x01\x01b\x01\x05\x01"), api.ErrForm},
		"shared, no int":                      {sealOf(a + "\x08\x80\x00\x00\x00\x00\x00\x00\x00\x01\x01b\x01\x05\x01"), api.ErrForm},
		"all of a Key":                        {sealOf(a + "\x01\x01\x00\x01\x04\x01"), api.OK},
		"all of a Key, and more":              {sealOf(a + "\x01\x01\x01\x01b\x01\x05\x01"), api.OK},
		"a byte more than there are":          {sealOf(a + "\x01\x02\x01\x01b\x01\x05\x01"), api.ErrForm},
		"a byte more, no rest":                {sealOf(a + "\x01\x02\x00\x01\x04\x01"), api.ErrForm},
		"no byte shared":                      {sealOf(a + "\x00\x01\x01b\x01\x05\x01"), api.OK},
		"a byte fewer shared":                 {sealOf(a + "\x00\x01\x02ab\x01\x05\x01"), api.ErrForm},
		"none shared of one Key":              {sealOf(a + "\x00\x01\x01a\x01\x04\x01"), api.ErrForm},
		"the same one again":                  {sealOf(a + a), api.ErrForm},
		"the same one, all shared":            {sealOf(a + "\x01\x01\x00\x01\x05\x01"), api.ErrForm},
		"one Key, the greater Seq behind":     {sealOf(a + "\x01\x01\x00\x01\x06\x01"), api.ErrForm},
		"the lesser Key behind":               {sealOf(a + "\x00\x01\x01A\x01\x05\x01"), api.ErrForm},
		"the shorter Key behind":              {sealOf("\x00\x01\x02ab\x01\x05\x01" + "\x01\x01\x00\x01\x05\x01"), api.ErrForm},
		"no Key":                              {sealOf("\x00\x00\x01\x05\x01"), api.ErrForm},
		"the longest Key":                     {sealOf(k), api.OK},
		"a byte more of Key":                  {sealOf("\x00\x01\x0e" + thirteen + "k\x01\x05\x01"), api.ErrForm},
		"the longest Key, shared":             {sealOf(k + "\x01\x0d\x00\x01\x04\x01"), api.OK},
		"a byte more of Key, the rest shared": {sealOf(k + "\x01\x0d\x01\x01k\x01\x05\x01"), api.ErrForm},
		"a rest of which bytes lack":          {sealOf("\x00\x01\x05abcd"), api.ErrForm},
		"a rest of the greatest int":          {sealOf("\x00" + number(math.MaxInt) + "abcd"), api.ErrForm},
		"a rest with a 0 ahead":               {sealOf("\x00\x02\x00\x01a\x01\x05\x01"), api.ErrForm},
		"no Seq":                              {sealOf("\x00\x01\x01a"), api.ErrForm},
		"Seq 0":                               {sealOf("\x00\x01\x01a\x00\x01"), api.ErrForm},
		"Seq with a 0 ahead":                  {sealOf("\x00\x01\x01a\x01\x00\x01"), api.ErrForm},
		"the greatest Seq":                    {sealOf("\x00\x01\x01a\x03\x0f\x42\x40\x01"), api.OK},
		"one more":                            {sealOf("\x00\x01\x01a\x03\x0f\x42\x41\x01"), api.ErrForm},
		"a Seq of the greatest int":           {sealOf("\x00\x01\x01a" + number(math.MaxInt) + "\x01"), api.ErrForm},
		"no byte behind Seq":                  {sealOf(a[:len(a)-1]), api.ErrForm},
		"a byte that is neither":              {sealOf(a[:len(a)-1] + "\x02"), api.ErrForm},
		"neither, a Value behind":             {sealOf(a[:len(a)-1] + "\x02\x01\x01x"), api.ErrForm},
		"no Value":                            {sealOf(a[:len(a)-1] + "\x00"), api.ErrForm},
		"an empty Value":                      {sealOf(a[:len(a)-1] + "\x00\x00"), api.OK},
		"the longest Value":                   {sealOf(a[:len(a)-1] + "\x00\x01\x18" + strings.Repeat("v", 24)), api.OK},
		"a byte more of Value":                {sealOf(a[:len(a)-1] + "\x00\x01\x19" + strings.Repeat("v", 25)), api.ErrForm},
		"a Value of which bytes lack":         {sealOf(a[:len(a)-1] + "\x00\x01\x02v"), api.ErrForm},
		"a Value with a 0 ahead":              {sealOf(a[:len(a)-1] + "\x00\x01\x00"), api.ErrForm},
		"a Value behind Del":                  {sealOf(a + "\x01\x01x"), api.ErrForm},
		"a 0 behind, sealed":                  {sealOf(a + "\x00"), api.ErrForm},
		"bytes behind, sealed":                {sealOf(a + "behind"), api.ErrForm},
		"half of another one behind, sealed":  {sealOf(a + "\x00\x01\x01b\x01"), api.ErrForm},
		"a large text":                        {sealOf(strings.Repeat("\x00", 1<<20)), api.ErrForm},
		"a large Key":                         {sealOf("\x00" + number(1<<20) + strings.Repeat("k", 1<<20) + "\x01\x05\x01"), api.ErrForm},
		"a large Value":                       {sealOf(a[:len(a)-1] + "\x00" + number(1<<20) + strings.Repeat("v", 1<<20)), api.ErrForm},
	} {
		l, err := Read(c.s)
		if err != c.want || (len(l) == 0) != (c.want != api.OK) {
			t.Errorf("%s: %.200v, %v", name, l, err)
		}
		holdRead(t, c.s)
	}
}

func TestReadOfALargeKeyThatManyShare(t *testing.T) { // P8.2, and that it ends: no Key is so large that all could be laid out
	var s strings.Builder
	s.WriteString("\x00" + number(1<<20) + strings.Repeat("k", 1<<20) + "\x01\x05\x01")
	for range 200000 {
		s.WriteString(number(1<<20) + "\x01\x01k\x01\x05\x01")
	}
	if l, err := Read(sealOf(s.String())); len(l) != 0 || err != api.ErrForm {
		t.Errorf("%d of them, %v", len(l), err)
	}
}

func TestReadOfWhatIsNot(t *testing.T) { // P8.2: laid out well, but no entry, or not in order
	for _, e := range bad() {
		if e.Seq < 0 || e.Del && e.Value != "" || len(e.Key) > 100 {
			continue
		}
		for i := range len(example()) + 1 {
			holdRead(t, sealOf(layOf(slices.Insert(example(), i, e))))
		}
		if l, err := Read(sealOf(layOf([]api.Entry{e}))); len(l) != 0 || err != api.ErrForm {
			t.Errorf("%v: %v, %v", e, l, err)
		}
	}
	for i := range example() {
		for j := range i {
			l := example()
			l[i], l[j] = l[j], l[i]
			if got, err := Read(sealOf(layOf(l))); len(got) != 0 || err != api.ErrForm {
				t.Errorf("%v: %v, %v", l, got, err)
			}
		}
	}
}

func TestReadOfOtherShares(t *testing.T) { // P8.2: of all ways to lay a Key out but one is Make's
	for _, l := range [][]api.Entry{example(), longest()} {
		for i := 1; i < len(l); i++ {
			most := sharedOf(l[i-1].Key, l[i].Key)
			for shared := range most + 1 {
				var s strings.Builder
				s.WriteString(layOf(l[:i]) + piece(l[i], shared))
				if i+1 < len(l) {
					s.WriteString(piece(l[i+1], sharedOf(l[i].Key, l[i+1].Key)))
				}
				got, err := Read(sealOf(s.String()))
				if (err == api.OK) != (shared == most) || (len(got) == 0) != (err != api.OK) {
					t.Errorf("%d of %v, %d shared: %v, %v", i, l, shared, got, err)
				}
				holdRead(t, sealOf(s.String()))
			}
		}
	}
}

func TestReadOfCutTexts(t *testing.T) { // P8.2: cut ahead of sealing and behind it
	for _, l := range rows() {
		text := layOf(l)
		s := sealOf(text)
		for at := range s {
			if got, err := Read(s[:at]); len(got) != 0 || err != api.ErrShort {
				t.Errorf("%.80q, cut at %d: %v, %v", s, at, got, err)
			}
		}
		for _, behind := range []string{"\x00", "\x01", "\xff", "behind", s} {
			if got, err := Read(s + behind); len(got) != 0 || err != api.ErrSpoilt {
				t.Errorf("%.80q, %.80q behind: %v, %v", s, behind, got, err)
			}
		}
		for at := range min(len(text), 300) {
			holdRead(t, sealOf(text[:at]))
			holdRead(t, sealOf(text[at:]))
			holdRead(t, sealOf(text[:at]+text[at+1:]))
			holdRead(t, sealOf(text[:at]+"\x00"+text[at:]))
			holdRead(t, sealOf(text[:at]+text[at:at+1]+text[at:]))
		}
	}
}

func TestReadOfChangedBytes(t *testing.T) { // P8.2: each byte turned to every other one, sealed before and behind
	for _, l := range [][]api.Entry{example(), longest(), {putOf("a", 2, "x"), putOf("a", 1, "x")}} {
		text := []byte(layOf(l))
		for i, was := range text {
			for c := range 256 {
				text[i] = byte(c)
				holdRead(t, sealOf(string(text)))
			}
			text[i] = was
		}
		s := []byte(sealOf(string(text)))
		for i, was := range s {
			for c := range 256 {
				s[i] = byte(c)
				holdRead(t, string(s))
				if got, err := Read(string(s)); byte(c) != was && (len(got) != 0 || err == api.OK) {
					t.Errorf("%q, byte %d changed to %d: %v, %v", s, i, c, got, err)
				}
			}
			s[i] = was
		}
	}
}

func TestReadOfAllShortTexts(t *testing.T) { // P8.2: of these bytes, up to 9 of them, and so behind an entry
	some := []byte{0, 1, 2, 'a'}
	var hold func(s string, left int)
	hold = func(s string, left int) {
		holdRead(t, sealOf(s))
		if left == 0 {
			return
		}
		for _, c := range some {
			hold(s+string([]byte{c}), left-1)
		}
	}
	hold("", 9)
	hold(piece(delOf("a", 2), 0), 7)
	hold(piece(putOf("\x01a", 2, ""), 0), 7)
	hold(piece(delOf("\x01", 1), 0)+piece(delOf("\x01\x01", 2), 1), 7)
}

func TestMadeIsRead(t *testing.T) { // P8.3
	for _, l := range rows() {
		for from := range min(len(l), 20) {
			for to := from + 1; to <= min(len(l), from+20); to++ {
				holdBoth(t, l[from:to])
			}
		}
		holdBoth(t, l)
	}
	all := append(example(), putOf("dd", 3, "y"), delOf("dd", 2), putOf("dda", 1, ""), putOf("e", 1, "\xff"))
	for set := 1; set < 1<<len(all); set++ { // each choice of them
		var l []api.Entry
		for i, e := range all {
			if set>>i&1 == 1 {
				l = append(l, e)
			}
		}
		holdBoth(t, l)
	}
	var many []api.Entry
	for i := range 100000 {
		many = append(many, putOf("key"+string(binary.BigEndian.AppendUint32(nil, uint32(i/3))), 1000000-i, strings.Repeat("v", i%25)))
	}
	holdBoth(t, many)
}

func TestReadTellsNewLists(t *testing.T) { // no answer is touched by what is done with another one
	s, _ := Make(example())
	first, _ := Read(s)
	second, _ := Read(s)
	grown := append(first, putOf("z", 1, ""))
	for i := range first {
		first[i], grown[i] = api.Entry{}, api.Entry{}
	}
	third, err := Read(s)
	if !slices.Equal(second, example()) || !slices.Equal(third, example()) || err != api.OK {
		t.Errorf("%v, then %v, %v", second, third, err)
	}
}
