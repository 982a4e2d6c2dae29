package table

import (
	"encoding/binary"
	"fmt"
	"math"
	"slices"
	"strings"
	"testing"

	"ravelin/api"
	"ravelin/block"
	"ravelin/cell"
	"ravelin/seal"
	"ravelin/sieve"
)

// putOf tells an entry with a Value.
func putOf(key string, seq int, value string) api.Entry {
	return api.Entry{Key: key, Seq: seq, Value: value}
}

// delOf tells an entry with Del.
func delOf(key string, seq int) api.Entry { return api.Entry{Key: key, Seq: seq, Del: true} }

// blockOf tells a block that is good.
func blockOf(l ...api.Entry) string {
	s, err := block.Make(l)
	if err != api.OK {
		panic(fmt.Sprint("no block: ", l))
	}
	return s
}

// sizeOf tells a size as the four bytes at the end.
func sizeOf(n int) string { return string(binary.BigEndian.AppendUint32(nil, uint32(n))) }

// spot is what the index tells of a block.
type spot struct {
	size        int
	first, last string
}

// spotsOf tells spots as they stand in the index.
func spotsOf(l ...spot) string {
	var s strings.Builder
	for _, x := range l {
		s.WriteString(cell.Num(x.size) + cell.Text(x.first) + cell.Text(x.last))
	}
	return s.String()
}

// headOf tells what is ahead of the spots.
func headOf(count, many int) string { return cell.Num(count) + cell.Num(many) }

// tableOf lays the parts of a table one behind the other, whether they fit or not.
func tableOf(blocks, index, net string) string {
	return blocks + seal.Seal(index) + seal.Seal(net) + sizeOf(len(blocks))
}

// makeOf works out Make by the words of P9.1.
func makeOf(l []api.Entry) (string, api.Errno) {
	if _, err := block.Make(l); err != api.OK {
		return "", err
	}
	var blocks string
	var spots []spot
	var keys []string
	for from := 0; from < len(l); {
		to := from + 1
		for to < len(l) && len(blockOf(l[from:to+1]...)) <= 200 {
			to++
		}
		b := blockOf(l[from:to]...)
		blocks, spots, from = blocks+b, append(spots, spot{len(b), l[from].Key, l[to-1].Key}), to
	}
	for _, e := range l {
		keys = append(keys, e.Key)
	}
	return tableOf(blocks, headOf(len(l), len(spots))+spotsOf(spots...), sieve.Make(slices.Compact(keys))), api.OK
}

// model is a table as the words tell it.
type model struct {
	count  int
	spots  []spot
	blocks []string
	net    string
}

// openOf works out Open by the words of P9.1.
func openOf(s string) (*model, api.Errno) {
	if len(s) < 4 {
		return nil, api.ErrShort
	}
	ahead, size := s[:len(s)-4], int(binary.BigEndian.Uint32([]byte(s[len(s)-4:])))
	if size > len(ahead) {
		return nil, api.ErrShort
	}
	index, n, err := seal.Open(ahead[size:])
	if err != api.OK {
		return nil, err
	}
	net, m, err := seal.Open(ahead[size+n:])
	if err != api.OK {
		return nil, err
	}
	t := &model{net: net}
	if !t.takeIndex(index, ahead[:size]) || size+n+m != len(ahead) || len(net) < 8 || len(net) > 8 && len(net) > t.count {
		return nil, api.ErrForm
	}
	return t, api.OK
}

// takeIndex fills the model by an index; false of one that is ill-formed by the words of P9.1.
func (m *model) takeIndex(index, blocks string) bool {
	ok := true
	num := func() int {
		n, k, err := cell.TakeNum(index)
		ok, index = ok && err == api.OK, index[k:]
		return n
	}
	str := func() string {
		s, k, err := cell.TakeText(index)
		ok, index = ok && err == api.OK, index[k:]
		return s
	}
	m.count = num()
	many := num()
	for ok && len(m.spots) < many {
		m.spots = append(m.spots, spot{num(), str(), str()})
	}
	ok = ok && index == "" && many > 0 && m.count >= many
	for i := range m.spots {
		x := m.spots[i]
		ok = ok && 1 <= x.size && x.size <= len(blocks) && x.first <= x.last && 1 <= len(x.first) && len(x.first) <= 13 && 1 <= len(x.last) && len(x.last) <= 13
		if !ok || i > 0 && m.spots[i-1].last > x.first {
			return false
		}
		m.blocks, blocks = append(m.blocks, blocks[:x.size]), blocks[x.size:]
	}
	return ok && blocks == ""
}

// get works out Get by the words of P9.2.
func (m *model) get(key string, seq int) (api.Entry, bool, api.Errno) {
	for i, x := range m.spots {
		if !sieve.May(m.net, key) || key < x.first || key > x.last {
			continue
		}
		l, err := block.Read(m.blocks[i])
		if err != api.OK {
			return api.Entry{}, false, err
		}
		for _, e := range l {
			if e.Key == key && e.Seq <= seq {
				return e, true, api.OK
			}
		}
	}
	return api.Entry{}, false, api.OK
}

// between works out Range by the words of P9.2.
func (m *model) between(from, to string) ([]api.Entry, api.Errno) {
	var found []api.Entry
	for i, x := range m.spots {
		least := max(from, x.first) // if there are such keys between first and last, this is one
		if least > x.last || to != "" && least >= to {
			continue
		}
		l, err := block.Read(m.blocks[i])
		if err != api.OK {
			return nil, err
		}
		for _, e := range l {
			if e.Key >= from && (to == "" || e.Key < to) {
				found = append(found, e)
			}
		}
	}
	return found, api.OK
}

// holdOpen holds Open of bytes, and what the table tells of itself, against the words.
func holdOpen(t *testing.T, s string) {
	t.Helper()
	x, err := Open(s)
	m, want := openOf(s)
	if err != want || (x == nil) != (m == nil) {
		t.Errorf("%.120q: %v, not %v", s, err, want)
	}
	if x == nil || m == nil {
		return
	}
	if x.Count() != m.count || x.Blocks() != len(m.spots) {
		t.Errorf("%.120q: %d entries, %d blocks, not %d, %d", s, x.Count(), x.Blocks(), m.count, len(m.spots))
	}
	first, last := x.Ends()
	if first != m.spots[0].first || last != m.spots[len(m.spots)-1].last {
		t.Errorf("%.120q: ends %q, %q", s, first, last)
	}
}

// holdAsked holds all that is asked of the table that is opened against the words, of these keys.
func holdAsked(t *testing.T, s string, keys []string, seqs []int) {
	t.Helper()
	x, err := Open(s)
	m, want := openOf(s)
	if err != api.OK || want != api.OK {
		t.Fatalf("%.120q: %v, not %v", s, err, want)
	}
	for _, key := range keys {
		for _, seq := range seqs {
			e, ok, err := x.Get(key, seq)
			if we, wok, werr := m.get(key, seq); e != we || ok != wok || err != werr {
				t.Errorf("%.120q: %q@%d: %v, %v, %v, not %v, %v, %v", s, key, seq, e, ok, err, we, wok, werr)
			}
		}
		for _, to := range keys {
			l, err := x.Range(key, to)
			if wl, werr := m.between(key, to); !slices.Equal(l, wl) || err != werr {
				t.Errorf("%.120q: from %q to %q: %v, %v, not %v, %v", s, key, to, l, err, wl, werr)
			}
		}
	}
	l, err := x.All()
	if wl, werr := m.between("", ""); !slices.Equal(l, wl) || err != werr {
		t.Errorf("%.120q: all: %v, %v, not %v, %v", s, l, err, wl, werr)
	}
}

// numbered tells that many entries, so many of each key.
func numbered(n, each int) []api.Entry {
	var l []api.Entry
	for i := range n {
		e := putOf(fmt.Sprintf("key%04d", i/each), 1000000-7*i, strings.Repeat("v", i%25))
		if i%5 == 3 {
			e = delOf(e.Key, e.Seq)
		}
		l = append(l, e)
	}
	return l
}

// lettered tells entries with Values of so many bytes; in a block each has 9 bytes more (8 more of an empty one), as their Keys share nothing.
func lettered(values ...int) []api.Entry {
	var l []api.Entry
	for i, n := range values {
		l = append(l, putOf(string([]byte{byte('a' + i)}), 1, strings.Repeat("v", n)))
	}
	return l
}

// longest tells a row of entries that are as long as they may be.
func longest() []api.Entry {
	var l []api.Entry
	for i := range 30 {
		l = append(l, putOf(string([]byte{byte(i * 8)})+strings.Repeat("k", 12), 1000000, strings.Repeat("\xff", 24)))
	}
	return l
}

// rows tells good rows of many kinds.
func rows() [][]api.Entry {
	list := [][]api.Entry{
		{putOf("b", 1, "x")}, {delOf("\x00", 1000000)}, {putOf("b", 2, "x"), delOf("b", 1), putOf("c", 1, "")},
		lettered(24, 24, 24, 24, 24, 20), lettered(24, 24, 24, 24, 24, 21), longest(), longest()[:4],
		numbered(60, 1), numbered(61, 3), numbered(200, 200), numbered(120, 30), numbered(300, 7),
	}
	var odd []api.Entry
	for i := range 40 {
		odd = append(odd, putOf(strings.Repeat("\x00", i/6+1), 256-i, ""), delOf(strings.Repeat("\x00", i/6+1), 255-i))
	}
	slices.SortFunc(odd, func(a, b api.Entry) int {
		if a.Key != b.Key {
			return strings.Compare(a.Key, b.Key)
		}
		return b.Seq - a.Seq
	})
	odd = slices.CompactFunc(odd, func(a, b api.Entry) bool { return a.Key == b.Key && a.Seq == b.Seq })
	return append(list, odd)
}

// probes tells keys at and beside those of a row and the ends of its blocks, and others; at most some of them.
func probes(l []api.Entry) []string {
	keys := []string{"", "\x00", "a", "m", "\xff", strings.Repeat("\xff", 13), strings.Repeat("z", 14), strings.Repeat("k", 1000)}
	step := max(1, len(l)/30)
	for i := 0; i < len(l); i += step {
		key := l[i].Key
		keys = append(keys, key, key+"\x00", key[:len(key)-1], key[:len(key)-1]+string([]byte{key[len(key)-1] - 1}))
	}
	if s, err := makeOf(l); err == api.OK {
		m, _ := openOf(s)
		for _, x := range m.spots[:min(5, len(m.spots))] {
			keys = append(keys, x.first, x.last, x.last+"\x00")
		}
	}
	slices.Sort(keys)
	return slices.Compact(keys)
}

// seqsOf tells numbers at and beside those of a row, and others; at most some of them.
func seqsOf(l []api.Entry) []int {
	seqs := []int{math.MinInt, -1, 0, 1, 2, 1000000, 1000001, math.MaxInt}
	step := max(1, len(l)/20)
	for i := 0; i < len(l); i += step {
		seqs = append(seqs, l[i].Seq-1, l[i].Seq, l[i].Seq+1)
	}
	slices.Sort(seqs)
	return slices.Compact(seqs)
}

// garble tells a table of which block i has as many bytes as before, but Read answers that error.
func garble(t *testing.T, s string, i int, want api.Errno) string {
	t.Helper()
	m, _ := openOf(s)
	at := 0
	for _, x := range m.spots[:i] {
		at += x.size
	}
	size := m.spots[i].size
	bad := map[api.Errno]string{
		api.ErrShort:  "\x01\xff" + strings.Repeat("x", size-2),
		api.ErrSpoilt: m.blocks[i][:size-1] + string([]byte{m.blocks[i][size-1] ^ 1}),
		api.ErrForm:   seal.Seal(strings.Repeat("\xff", size-6)),
	}[want]
	if _, err := block.Read(bad); err != want || len(bad) != size {
		t.Fatalf("block %d of %d bytes: %v, not %v", i, size, err, want)
	}
	return s[:at] + bad + s[at+size:]
}

func TestMakeOfOne(t *testing.T) { // P9.1
	made := "\x01\x0a" + "\x03\x51\x00\xe1" + "\x00\x01\x01b\x01\x01\x00\x01\x01x"
	index := "\x01\x01" + "\x01\x01" + "\x01\x10" + "\x01\x01b" + "\x01\x01b"
	net := "\x80\x00\x00\x01\x04\x00\x00\x20"
	want := made + seal.Seal(index) + seal.Seal(net) + "\x00\x00\x00\x10"
	if s, err := Make([]api.Entry{putOf("b", 1, "x")}); s != want || err != api.OK {
		t.Errorf("%q, %v, not %q", s, err, want)
	}
}

func TestMake(t *testing.T) { // P9.1
	for _, l := range rows() {
		for size := range len(l) + 1 {
			was := slices.Clone(l)
			s, err := Make(l[:size])
			if ws, werr := makeOf(l[:size]); s != ws || err != werr {
				t.Errorf("%.200v: %.120q, %v, not %.120q, %v", l[:size], s, err, ws, werr)
			}
			if !slices.Equal(l, was) {
				t.Fatalf("%v any more, but %v", was, l)
			}
		}
	}
}

func TestMakeFillsBlocks(t *testing.T) { // P9.1: 6 of a block's bytes are the seal's
	for name, c := range map[string]struct {
		l    []api.Entry
		want []int
	}{
		"200 bytes":                  {lettered(24, 24, 24, 24, 24, 20), []int{200}},
		"a byte more":                {lettered(24, 24, 24, 24, 24, 21), []int{171, 36}},
		"200 bytes, one more":        {lettered(24, 24, 24, 24, 24, 20, 0), []int{200, 14}},
		"199 bytes, one more":        {lettered(24, 24, 24, 24, 24, 19, 0), []int{199, 14}},
		"just one more goes in":      {lettered(24, 24, 24, 24, 24, 12, 0), []int{200}},
		"a short one behind goes in": {lettered(24, 24, 24, 24, 24, 21, 0), []int{171, 44}},
		"twice 200 bytes":            {lettered(24, 24, 24, 24, 24, 20, 24, 24, 24, 24, 24, 20), []int{200, 200}},
		"of the longest":             {longest()[:9], []int{194, 194, 53}},
	} {
		s, _ := Make(c.l)
		m, err := openOf(s)
		if err != api.OK {
			t.Fatalf("%s: %v", name, err)
		}
		var sizes []int
		for _, x := range m.spots {
			sizes = append(sizes, x.size)
		}
		if !slices.Equal(sizes, c.want) {
			t.Errorf("%s: %v, not %v", name, sizes, c.want)
		}
	}
}

func TestMakeSievesEachKeyOnce(t *testing.T) { // P9.1
	for name, c := range map[string]struct {
		l    []api.Entry
		want int
	}{
		"one key":                  {numbered(50, 50), 8},
		"eight keys":               {numbered(16, 2), 8},
		"nine keys":                {numbered(18, 2), 9},
		"nine, the last one twice": {append(numbered(8, 1), putOf("z", 2, ""), putOf("z", 1, "")), 9},
		"a hundred keys":           {numbered(300, 3), 100},
	} {
		s, _ := Make(c.l)
		m, err := openOf(s)
		if err != api.OK || len(m.net) != c.want {
			t.Errorf("%s: %v, %d bytes, not %d", name, err, len(m.net), c.want)
		}
	}
}

func TestMakeErrs(t *testing.T) { // P9.1
	a, b := putOf("a", 1, ""), putOf("b", 1, "")
	for name, c := range map[string]struct {
		l    []api.Entry
		want api.Errno
	}{
		"none":                          {nil, api.ErrForm},
		"an empty list":                 {[]api.Entry{}, api.ErrForm},
		"nothing in it":                 {[]api.Entry{{}}, api.ErrForm},
		"no Key":                        {[]api.Entry{putOf("", 1, "x")}, api.ErrForm},
		"the longest Key":               {[]api.Entry{putOf(strings.Repeat("k", 13), 1, "x")}, api.OK},
		"a byte more":                   {[]api.Entry{putOf(strings.Repeat("k", 14), 1, "x")}, api.ErrForm},
		"the greatest Seq":              {[]api.Entry{putOf("a", 1000000, "")}, api.OK},
		"one more":                      {[]api.Entry{putOf("a", 1000001, "")}, api.ErrForm},
		"a byte more of Value":          {[]api.Entry{putOf("a", 1, strings.Repeat("v", 25))}, api.ErrForm},
		"the greater Key ahead":         {[]api.Entry{b, a}, api.ErrOrder},
		"one twice":                     {[]api.Entry{a, a}, api.ErrOrder},
		"the greater Seq behind":        {[]api.Entry{a, putOf("a", 2, "")}, api.ErrOrder},
		"turned, one that isn't Is":     {[]api.Entry{b, a, {}}, api.ErrForm},
		"one that isn't Is, and turned": {[]api.Entry{{}, b, a}, api.ErrForm},
	} {
		if s, err := Make(c.l); err != c.want || (s == "") != (err != api.OK) {
			t.Errorf("%s: %q, %v, not %v", name, s, err, c.want)
		}
	}
}

func TestMakeErrsAtEachPlace(t *testing.T) { // P9.1: wherever its blocks end
	good := numbered(60, 4)
	for i := range good {
		l := slices.Clone(good)
		l[i].Seq = 0
		if s, err := Make(l); s != "" || err != api.ErrForm {
			t.Errorf("the entry %d isn't Is: %.80q, %v", i, s, err)
		}
		if i == 0 {
			continue
		}
		for _, j := range []int{0, i / 2, i - 1} {
			l := slices.Clone(good)
			l[i], l[j] = l[j], l[i]
			if s, err := Make(l); s != "" || err != api.ErrOrder {
				t.Errorf("the entries %d and %d turned: %.80q, %v", j, i, s, err)
			}
		}
		if s, err := Make(slices.Insert(slices.Clone(good), i, good[i])); s != "" || err != api.ErrOrder {
			t.Errorf("the entry %d twice: %.80q, %v", i, s, err)
		}
	}
}

func TestOpenErrsOfSizes(t *testing.T) { // P9.1
	b := blockOf(putOf("b", 1, ""))
	index := seal.Seal(headOf(1, 1) + spotsOf(spot{len(b), "b", "b"}))
	net := seal.Seal(sieve.Make([]string{"b"}))
	whole := b + index + net
	for name, c := range map[string]struct {
		s    string
		want api.Errno
	}{
		"a good one":                       {whole + sizeOf(len(b)), api.OK},
		"no byte":                          {"", api.ErrShort},
		"three bytes":                      {"\x00\x00\x00", api.ErrShort},
		"three bytes that can't be sealed": {"\xff\xff\xff", api.ErrShort},
		"four bytes of 0":                  {sizeOf(0), api.ErrShort},
		"four bytes, a size":               {sizeOf(1), api.ErrShort},
		"four bytes, the size 4":           {sizeOf(4), api.ErrShort},
		"four bytes, the greatest size":    {"\xff\xff\xff\xff", api.ErrShort},
		"the index at the end":             {whole + sizeOf(len(whole)), api.ErrShort},
		"a byte beyond":                    {whole + sizeOf(len(whole)+1), api.ErrShort},
		"three bytes beyond":               {whole + sizeOf(len(whole)+3), api.ErrShort},
		"four bytes beyond":                {whole + sizeOf(len(whole)+4), api.ErrShort},
		"five bytes beyond":                {whole + sizeOf(len(whole)+5), api.ErrShort},
		"the greatest int of 32 bits":      {whole + "\x7f\xff\xff\xff", api.ErrShort},
		"one more":                         {whole + "\x80\x00\x00\x00", api.ErrShort},
		"the greatest size":                {whole + "\xff\xff\xff\xff", api.ErrShort},
		"the lowest byte first":            {whole + string([]byte{byte(len(b)), 0, 0, 0}), api.ErrShort},
		"beyond, what could be sealed":     {"12345\x00\x00\x00\x09", api.ErrShort},
		"the size of none":                 {whole + sizeOf(0), api.ErrForm},
		"of none, nothing ahead":           {index + net + sizeOf(0), api.ErrForm},
		"of the block and the index":       {whole + sizeOf(len(b)+len(index)), api.ErrShort},
	} {
		if x, err := Open(c.s); err != c.want || (x == nil) != (err != api.OK) {
			t.Errorf("%s: %v, not %v", name, err, c.want)
		}
		holdOpen(t, c.s)
	}
}

func TestOpenErrsOfSeals(t *testing.T) { // P9.1: in order, and ahead of ErrForm
	b := blockOf(putOf("b", 1, ""))
	index := seal.Seal(headOf(1, 1) + spotsOf(spot{len(b), "b", "b"}))
	ill := seal.Seal("\xff")
	net := seal.Seal(sieve.Make([]string{"b"}))
	turned := func(s string) string { return s[:len(s)-1] + string([]byte{s[len(s)-1] ^ 1}) }
	lacking := "\x01\xff"
	for name, c := range map[string]struct {
		behind string
		want   api.Errno
	}{
		"a good one":                       {index + net, api.OK},
		"nothing":                          {"", api.ErrShort},
		"a number that is none":            {"\x09", api.ErrSpoilt},
		"a number with a 0 ahead":          {"\x01\x00" + net, api.ErrSpoilt},
		"an index of which bytes lack":     {lacking + net, api.ErrShort},
		"an index cut":                     {index[:len(index)-1], api.ErrShort},
		"an index turned":                  {turned(index) + net, api.ErrSpoilt},
		"an index turned, the sieve lacks": {turned(index) + lacking, api.ErrSpoilt},
		"an index lacks, the sieve turned": {lacking + turned(net), api.ErrShort},
		"no sieve":                         {index, api.ErrShort},
		"a sieve cut":                      {index + net[:len(net)-1], api.ErrShort},
		"a sieve turned":                   {index + turned(net), api.ErrSpoilt},
		"a sieve's number is none":         {index + "\x09", api.ErrSpoilt},
		"ill-formed":                       {ill + net, api.ErrForm},
		"ill-formed, no sieve":             {ill, api.ErrShort},
		"ill-formed, the sieve cut":        {ill + net[:len(net)-1], api.ErrShort},
		"ill-formed, the sieve turned":     {ill + turned(net), api.ErrSpoilt},
		"ill-formed, bytes behind":         {ill + net + "x", api.ErrForm},
		"a byte behind":                    {index + net + "x", api.ErrForm},
		"four bytes behind":                {index + net + sizeOf(len(b)), api.ErrForm},
		"another sieve behind":             {index + net + net, api.ErrForm},
		"a byte between":                   {index + "x" + net, api.ErrSpoilt},
		"turned, a byte behind":            {index + turned(net) + "x", api.ErrSpoilt},
	} {
		s := b + c.behind + sizeOf(len(b))
		if x, err := Open(s); err != c.want || (x == nil) != (err != api.OK) {
			t.Errorf("%s: %v, not %v", name, err, c.want)
		}
		holdOpen(t, s)
	}
	overlap := b + index + seal.Seal("1234"+sizeOf(len(b))) // what is sealed would end behind the size's beginning
	if x, err := Open(overlap); x != nil || err != api.ErrShort {
		t.Errorf("the size is the sieve's end: %v", err)
	}
}

func TestOpenErrsOfIndex(t *testing.T) { // P9.1
	blocks := strings.Repeat("x", 10)
	net := strings.Repeat("\xff", 8)
	thirteen, huge := strings.Repeat("k", 13), strings.Repeat("k", 1<<20)
	one := spotsOf(spot{10, "b", "c"})
	two := func(a, b, c, d string) string { return headOf(2, 2) + spotsOf(spot{4, a, b}, spot{6, c, d}) }
	for name, c := range map[string]struct {
		index string
		want  api.Errno
	}{
		"a good one":                     {headOf(1, 1) + one, api.OK},
		"nothing":                        {"", api.ErrForm},
		"no number of blocks":            {cell.Num(1), api.ErrForm},
		"no spot":                        {headOf(1, 1), api.ErrForm},
		"a spot cut":                     {headOf(1, 1) + one[:len(one)-1], api.ErrForm},
		"a spot without a last key":      {headOf(1, 1) + one[:len(one)-3], api.ErrForm},
		"a spot without keys":            {headOf(1, 1) + one[:len(one)-6], api.ErrForm},
		"a byte behind":                  {headOf(1, 1) + one + "x", api.ErrForm},
		"a 0 behind":                     {headOf(1, 1) + one + "\x00", api.ErrForm},
		"a spot of no bytes behind":      {headOf(1, 1) + one + spotsOf(spot{0, "c", "c"}), api.ErrForm},
		"a number with a 0 ahead":        {"\x02\x00\x01" + cell.Num(1) + one, api.ErrForm},
		"blocks with a 0 ahead":          {cell.Num(1) + "\x02\x00\x01" + one, api.ErrForm},
		"a size with a 0 ahead":          {headOf(1, 1) + "\x02\x00\x0a" + one[2:], api.ErrForm},
		"a key's size with a 0 ahead":    {headOf(1, 1) + cell.Num(10) + "\x02\x00\x01b" + cell.Text("c"), api.ErrForm},
		"a last one's with a 0 ahead":    {headOf(1, 1) + cell.Num(10) + cell.Text("b") + "\x02\x00\x01c", api.ErrForm},
		"a number that is no int":        {"\x08\x80\x00\x00\x00\x00\x00\x00\x00" + cell.Num(1) + one, api.ErrForm},
		"no block":                       {headOf(0, 0), api.ErrForm},
		"no block, but a number":         {headOf(1, 0), api.ErrForm},
		"no block, but a spot":           {headOf(1, 0) + one, api.ErrForm},
		"a block fewer":                  {headOf(2, 1) + two("a", "b", "c", "d")[4:], api.ErrForm},
		"a block more":                   {headOf(2, 2) + one, api.ErrForm},
		"the greatest number of blocks":  {headOf(math.MaxInt, math.MaxInt) + one, api.ErrForm},
		"one has no byte":                {headOf(2, 2) + spotsOf(spot{0, "b", "b"}, spot{10, "b", "c"}), api.ErrForm},
		"the last one has no byte":       {headOf(2, 2) + spotsOf(spot{10, "b", "b"}, spot{0, "b", "c"}), api.ErrForm},
		"a byte fewer in all":            {headOf(1, 1) + spotsOf(spot{9, "b", "c"}), api.ErrForm},
		"a byte more in all":             {headOf(1, 1) + spotsOf(spot{11, "b", "c"}), api.ErrForm},
		"a byte fewer of two":            {headOf(2, 2) + spotsOf(spot{4, "b", "b"}, spot{5, "b", "c"}), api.ErrForm},
		"a byte more of two":             {headOf(2, 2) + spotsOf(spot{5, "b", "b"}, spot{6, "b", "c"}), api.ErrForm},
		"the first one has them all":     {headOf(2, 2) + spotsOf(spot{11, "b", "b"}, spot{1, "b", "c"}), api.ErrForm},
		"the greatest int of bytes":      {headOf(1, 1) + spotsOf(spot{math.MaxInt, "b", "c"}), api.ErrForm},
		"a sum of bytes that wraps":      {headOf(3, 3) + spotsOf(spot{math.MaxInt, "b", "b"}, spot{math.MaxInt, "b", "b"}, spot{12, "b", "c"}), api.ErrForm},
		"a first key of no byte":         {headOf(1, 1) + spotsOf(spot{10, "", "c"}), api.ErrForm},
		"keys of no byte":                {headOf(1, 1) + spotsOf(spot{10, "", ""}), api.ErrForm},
		"keys of a byte":                 {headOf(1, 1) + spotsOf(spot{10, "\x00", "\x00"}), api.OK},
		"the longest keys":               {headOf(1, 1) + spotsOf(spot{10, thirteen, thirteen}), api.OK},
		"a byte more of the first":       {headOf(1, 1) + spotsOf(spot{10, thirteen + "k", "l"}), api.ErrForm},
		"a byte more of the last":        {headOf(1, 1) + spotsOf(spot{10, thirteen, thirteen + "k"}), api.ErrForm},
		"a huge key":                     {headOf(1, 1) + spotsOf(spot{10, "a", huge}), api.ErrForm},
		"a first above its last":         {headOf(1, 1) + spotsOf(spot{10, "c", "b"}), api.ErrForm},
		"a first that goes on":           {headOf(1, 1) + spotsOf(spot{10, "bb", "b"}), api.ErrForm},
		"a first and a last alike":       {headOf(1, 1) + spotsOf(spot{10, "b", "b"}), api.OK},
		"two":                            {two("a", "b", "c", "d"), api.OK},
		"a last that is the next first":  {two("a", "c", "c", "d"), api.OK},
		"all alike":                      {two("c", "c", "c", "c"), api.OK},
		"a last above the next first":    {two("a", "c", "b", "d"), api.ErrForm},
		"a last that goes on":            {two("a", "cc", "c", "d"), api.ErrForm},
		"the second's first above last":  {two("a", "b", "d", "c"), api.ErrForm},
		"the second below":               {two("c", "d", "a", "b"), api.ErrForm},
		"a second one without a key":     {two("a", "b", "", "d"), api.ErrForm},
		"no entry":                       {headOf(0, 1) + one, api.ErrForm},
		"fewer entries than blocks":      {headOf(1, 2) + two("a", "b", "c", "d")[4:], api.ErrForm},
		"more entries than bytes":        {headOf(1000, 1) + one, api.OK},
		"the greatest number of entries": {headOf(math.MaxInt, 1) + one, api.OK},
	} {
		s := tableOf(blocks, c.index, net)
		if x, err := Open(s); err != c.want || (x == nil) != (err != api.OK) {
			t.Errorf("%s: %v, not %v", name, err, c.want)
		}
		holdOpen(t, s)
	}
}

func TestOpenErrsOfSieve(t *testing.T) { // P9.1: 8 bytes at least, and no more than 8 and than entries
	for count := 1; count < 40; count++ {
		index := headOf(count, 1) + spotsOf(spot{3, "a", "b"})
		for size := range 60 {
			want := api.OK
			if size < 8 || size > max(8, count) {
				want = api.ErrForm
			}
			if x, err := Open(tableOf("abc", index, strings.Repeat("\xff", size))); err != want || (x == nil) != (err != api.OK) {
				t.Errorf("%d entries, %d bytes: %v, not %v", count, size, err, want)
			}
		}
	}
}

func TestOpenOfCutBytes(t *testing.T) { // P9.1
	for _, l := range rows() {
		s, _ := Make(l[:min(len(l), 40)])
		for at := range s {
			holdOpen(t, s[:at])
			holdOpen(t, s[at:])
			holdOpen(t, s[:at]+s[at+1:])
			holdOpen(t, s[:at]+"\x00"+s[at:])
			if x, err := Open(s[:at]); x != nil || err == api.OK {
				t.Errorf("%.80q: opened, cut at %d", s, at)
			}
		}
		holdOpen(t, s+s)
		holdOpen(t, s+"x")
	}
}

func TestOpenOfChangedBytes(t *testing.T) { // P9.1: each byte turned to every other one, sealed before and behind
	s, _ := Make(numbered(30, 3))
	m, _ := openOf(s)
	blocks := strings.Join(m.blocks, "")
	for i := len(blocks); i < len(s); i++ {
		c := []byte(s)
		for b := range 256 {
			c[i] = byte(b)
			holdOpen(t, string(c))
			if x, err := Open(string(c)); string(c) != s && (x != nil || err == api.OK) {
				t.Errorf("byte %d changed to %d: opened", i, b)
			}
		}
	}
	index, n, _ := seal.Open(s[len(blocks):])
	net, _, _ := seal.Open(s[len(blocks)+n:])
	for i := range index {
		c := []byte(index)
		for b := range 256 {
			c[i] = byte(b)
			holdOpen(t, tableOf(blocks, string(c), net))
		}
		holdOpen(t, tableOf(blocks, index[:i], net))
		holdOpen(t, tableOf(blocks, index[i:], net))
		holdOpen(t, tableOf(blocks, index[:i]+index[i+1:], net))
		holdOpen(t, tableOf(blocks, index[:i]+"\x01"+index[i:], net))
	}
}

func TestOpenOfAllShortTexts(t *testing.T) { // P9.1: of these bytes up to 4 of them, and so as an index
	some := []byte{0, 1, 2, 9, 'a'}
	var hold func(s string, left int)
	hold = func(s string, left int) {
		holdOpen(t, s)
		holdOpen(t, s+sizeOf(0))
		holdOpen(t, tableOf("", s, "12345678"))
		holdOpen(t, tableOf("a", "\x01\x01\x01\x01\x01\x01"+s, "12345678"))
		holdOpen(t, tableOf("aa", "\x01\x02\x01\x02\x01\x01\x01\x01a\x01\x01a\x01\x01"+s, "12345678"))
		if left == 0 {
			return
		}
		for _, c := range some {
			hold(s+string([]byte{c}), left-1)
		}
	}
	hold("", 6)
}

func TestOpenReadsNoBlocks(t *testing.T) { // P9.1
	for _, l := range rows() {
		s, _ := Make(l)
		m, _ := openOf(s)
		size := len(strings.Join(m.blocks, ""))
		for _, c := range []string{"\x00", "\x01", "\xff"} {
			x, err := Open(strings.Repeat(c, size) + s[size:])
			if err != api.OK {
				t.Fatalf("blocks of %q: %v", c, err)
			}
			first, last := x.Ends()
			if x.Count() != len(l) || x.Blocks() != len(m.spots) || first != l[0].Key || last != l[len(l)-1].Key {
				t.Errorf("blocks of %q: %d, %d, %q, %q", c, x.Count(), x.Blocks(), first, last)
			}
		}
	}
}

func TestTells(t *testing.T) { // P9.2: Count, Blocks, Ends are the index's
	s := tableOf("abcdef", headOf(1000, 3)+spotsOf(spot{1, "b", "cc"}, spot{2, "d", "d"}, spot{3, "d", "x\xff"}), "12345678")
	x, err := Open(s)
	if err != api.OK || x.Count() != 1000 || x.Blocks() != 3 {
		t.Fatalf("%v", err)
	}
	if first, last := x.Ends(); first != "b" || last != "x\xff" {
		t.Errorf("%q, %q", first, last)
	}
	for name, c := range map[string]struct {
		l           []api.Entry
		first, last string
	}{
		"one entry":    {[]api.Entry{delOf("b", 1)}, "b", "b"},
		"two of a key": {[]api.Entry{putOf("b", 2, ""), delOf("b", 1)}, "b", "b"},
		"many":         {numbered(100, 3), "key0000", "key0033"},
		"many of one":  {numbered(100, 100), "key0000", "key0000"},
	} {
		s, _ := Make(c.l)
		x, _ := Open(s)
		if first, last := x.Ends(); first != c.first || last != c.last || x.Count() != len(c.l) {
			t.Errorf("%s: %d, %q, %q", name, x.Count(), first, last)
		}
	}
}

func TestAsked(t *testing.T) { // P9.2
	for _, l := range rows() {
		s, _ := Make(l)
		holdAsked(t, s, probes(l), seqsOf(l))
	}
}

func TestGet(t *testing.T) { // P9.2
	l := []api.Entry{putOf("a", 9, "new"), delOf("a", 5), putOf("a", 2, "old"), putOf("c", 3, ""), delOf("d", 4)}
	s, _ := Make(l)
	x, _ := Open(s)
	for _, c := range []struct {
		key  string
		seq  int
		want api.Entry
	}{
		{"a", 9, l[0]}, {"a", math.MaxInt, l[0]}, {"a", 8, l[1]}, {"a", 5, l[1]}, {"a", 4, l[2]}, {"a", 2, l[2]}, {"a", 1, api.Entry{}},
		{"c", 3, l[3]}, {"c", 2, api.Entry{}}, {"d", 4, l[4]}, {"d", 0, api.Entry{}}, {"d", math.MinInt, api.Entry{}},
		{"b", 9, api.Entry{}}, {"", 9, api.Entry{}}, {"e", 9, api.Entry{}}, {"aa", 9, api.Entry{}}, {strings.Repeat("a", 1000), 9, api.Entry{}},
	} {
		if e, ok, err := x.Get(c.key, c.seq); e != c.want || ok != (c.want != api.Entry{}) || err != api.OK {
			t.Errorf("%q@%d: %v, %v, %v, not %v", c.key, c.seq, e, ok, err, c.want)
		}
	}
}

func TestGetAsksTheSieve(t *testing.T) { // P9.2: where it says no, no block is read
	l := numbered(60, 3)
	s, _ := Make(l)
	m, _ := openOf(s)
	index := headOf(m.count, len(m.spots)) + spotsOf(m.spots...)
	bad := strings.Repeat("x", len(strings.Join(m.blocks, "")))
	none, _ := Open(tableOf(bad, index, strings.Repeat("\x00", 8)))
	all, _ := Open(tableOf(bad, index, strings.Repeat("\xff", 8)))
	for _, e := range l {
		if got, ok, err := none.Get(e.Key, e.Seq); got != (api.Entry{}) || ok || err != api.OK {
			t.Errorf("%v, by a sieve without bits: %v, %v, %v", e, got, ok, err)
		}
		if got, ok, err := all.Get(e.Key, e.Seq); got != (api.Entry{}) || ok || err != api.ErrSpoilt {
			t.Errorf("%v, by a sieve of all bits: %v, %v, %v", e, got, ok, err)
		}
	}
	for _, size := range []int{8, 9, 20, 60} {
		for _, c := range []string{"\x00", "\x55", "\xf0", "\xff"} {
			holdAsked(t, tableOf(strings.Join(m.blocks, ""), index, strings.Repeat(c, size)), probes(l), []int{0, 1000000})
		}
	}
}

func TestOfSpoiltBlocks(t *testing.T) { // P9.2: only what needs them errs
	for _, l := range [][]api.Entry{numbered(40, 1), numbered(60, 4), numbered(50, 50), numbered(60, 25), longest()[:14]} {
		whole, _ := Make(l)
		m, _ := openOf(whole)
		many := min(len(m.spots), 4)
		errs := []api.Errno{api.ErrSpoilt, api.ErrShort, api.ErrForm}
		for set := range 1 << many {
			s := whole
			for i := range many {
				if set>>i&1 == 1 {
					s = garble(t, s, i, errs[(set+i)%3])
				}
			}
			holdAsked(t, s, probes(l), []int{0, l[0].Seq, l[len(l)/2].Seq, l[len(l)-1].Seq})
		}
	}
}

func TestFirstErrorIsTold(t *testing.T) { // P9.2: and beside it nothing
	l := numbered(90, 90)
	s, _ := Make(l)
	s = garble(t, garble(t, s, 1, api.ErrShort), 2, api.ErrForm)
	x, _ := Open(s)
	m, _ := openOf(s)
	ahead, err := block.Read(m.blocks[0])
	if err != api.OK {
		t.Fatal(err)
	}
	least := ahead[len(ahead)-1]
	if e, ok, err := x.Get("key0000", least.Seq); e != least || !ok || err != api.OK {
		t.Errorf("of the block ahead: %v, %v, %v", e, ok, err)
	}
	if e, ok, err := x.Get("key0000", least.Seq-1); e != (api.Entry{}) || ok || err != api.ErrShort {
		t.Errorf("older: %v, %v, %v", e, ok, err)
	}
	if l, err := x.Range("key0000", "key0001"); len(l) != 0 || err != api.ErrShort {
		t.Errorf("range: %v, %v", l, err)
	}
	if l, err := x.All(); len(l) != 0 || err != api.ErrShort {
		t.Errorf("all: %v, %v", l, err)
	}
}

func TestRange(t *testing.T) { // P9.2
	l := []api.Entry{putOf("a", 9, "x"), delOf("a", 5), putOf("b", 2, ""), putOf("ba", 3, ""), delOf("d", 4)}
	s, _ := Make(l)
	x, _ := Open(s)
	for _, c := range []struct {
		from, to string
		want     []api.Entry
	}{
		{"", "", l}, {"a", "", l}, {"\x00", "", l}, {"a\x00", "", l[2:]}, {"b", "", l[2:]}, {"c", "", l[4:]}, {"d", "", l[4:]}, {"d\x00", "", nil}, {"z", "", nil},
		{"", "a", nil}, {"", "a\x00", l[:2]}, {"", "b", l[:2]}, {"", "ba", l[:3]}, {"", "d", l[:4]}, {"", "e", l}, {"", "\xff\xff", l},
		{"a", "a", nil}, {"a", "b", l[:2]}, {"b", "ba", l[2:3]}, {"b", "c", l[2:4]}, {"b", "d\x00", l[2:]}, {"d", "a", nil}, {"c", "b", nil}, {"bb", "c", nil},
	} {
		if got, err := x.Range(c.from, c.to); !slices.Equal(got, c.want) || err != api.OK {
			t.Errorf("from %q to %q: %v, %v, not %v", c.from, c.to, got, err, c.want)
		}
	}
}

func TestRangeOfNoKeysErrsNot(t *testing.T) { // P9.2: no block has such keys, whatever it is
	s := tableOf("spoilt", headOf(2, 1)+spotsOf(spot{6, "c", "m"}), strings.Repeat("\xff", 8))
	x, _ := Open(s)
	for _, c := range []struct {
		from, to string
		want     api.Errno
	}{
		{"d", "d", api.OK}, {"e", "d", api.OK}, {"l", "c\x00", api.OK}, {"z", "a", api.OK}, {"m", "m", api.OK}, {"m", "c", api.OK},
		{"", "c", api.OK}, {"a", "b", api.OK}, {"m\x00", "", api.OK}, {"m\x00", "z", api.OK}, {"n", "", api.OK},
		{"", "", api.ErrSpoilt}, {"", "c\x00", api.ErrSpoilt}, {"c", "c\x00", api.ErrSpoilt}, {"d", "e", api.ErrSpoilt}, {"m", "", api.ErrSpoilt}, {"m", "m\x00", api.ErrSpoilt}, {"a", "z", api.ErrSpoilt},
	} {
		if l, err := x.Range(c.from, c.to); len(l) != 0 || err != c.want {
			t.Errorf("from %q to %q: %v, %v, not %v", c.from, c.to, l, err, c.want)
		}
	}
}

func TestAllOfEachSize(t *testing.T) { // P9.2
	l := numbered(150, 2)
	for size := 1; size <= len(l); size++ {
		s, _ := Make(l[:size])
		x, _ := Open(s)
		if got, err := x.All(); !slices.Equal(got, l[:size]) || err != api.OK {
			t.Errorf("%d: %v, %v", size, got, err)
		}
	}
}

func TestOfBlocksThatAreOthers(t *testing.T) { // what the index doesn't tell: all calls end, and what is asked goes by the index
	a, b, c := blockOf(putOf("a", 2, "x")), blockOf(delOf("b", 2), putOf("c", 1, "")), blockOf(putOf("a", 1, "x"), putOf("z", 1, ""))
	net := strings.Repeat("\xff", 8)
	keys, seqs := []string{"", "a", "a\x00", "b", "c", "d", "z", "zz"}, []int{0, 1, 2, 3}
	ends := []string{"a", "b", "c", "z"}
	for i, first := range ends {
		for j, last := range ends[i:] {
			for _, end := range ends[i+j:] {
				for _, blocks := range [][]string{{a, b}, {b, a}, {b, c}, {c, b}, {c, c}, {c, a}} {
					index := headOf(2, 2) + spotsOf(spot{len(blocks[0]), first, last}, spot{len(blocks[1]), last, end})
					holdAsked(t, tableOf(blocks[0]+blocks[1], index, net), keys, seqs)
				}
			}
		}
	}
}

func TestMadeIsFound(t *testing.T) { // P9.3
	for _, l := range append(rows(), numbered(20000, 3)) {
		s, err := Make(l)
		if err != api.OK {
			t.Fatal(err)
		}
		x, err := Open(s)
		if err != api.OK || x.Count() != len(l) {
			t.Fatal(err)
		}
		for i, e := range l {
			if got, ok, err := x.Get(e.Key, e.Seq); got != e || !ok || err != api.OK {
				t.Errorf("%v: %v, %v, %v", e, got, ok, err)
			}
			older := i+1 < len(l) && l[i+1].Key == e.Key
			if got, ok, err := x.Get(e.Key, e.Seq-1); ok != older || older && got != l[i+1] || err != api.OK {
				t.Errorf("what %v hides: %v, %v, %v", e, got, ok, err)
			}
			if got, err := x.Range(e.Key, e.Key+"\x00"); !slices.Contains(got, e) || err != api.OK {
				t.Errorf("%v: %v, %v", e, got, err)
			}
		}
		if got, err := x.All(); !slices.Equal(got, l) || err != api.OK {
			t.Errorf("%.200v: %.200v, %v", l, got, err)
		}
	}
}

func TestTellsNewLists(t *testing.T) { // no answer is touched by what is done with another one, nor the table
	l := numbered(50, 3)
	s, _ := Make(l)
	x, _ := Open(s)
	first, _ := x.All()
	part, _ := x.Range("key0002", "key0009")
	want := slices.Clone(part)
	grown := append(first[:len(first):cap(first)], putOf("z", 1, ""))
	for i := range first {
		first[i], grown[i] = api.Entry{}, api.Entry{}
	}
	clear(first[:cap(first)])
	again, err := x.All()
	if !slices.Equal(part, want) || !slices.Equal(again, l) || err != api.OK {
		t.Errorf("%v, then %v, %v", part, again, err)
	}
}

func TestOtherTablesDoNotMatter(t *testing.T) { // several tables, asked in turn, each tell their own
	var tables []*Table
	list := rows()
	for _, l := range list {
		s, _ := Make(l)
		x, _ := Open(s)
		tables = append(tables, x)
	}
	for range 2 {
		for i, x := range tables {
			if got, err := x.All(); !slices.Equal(got, list[i]) || err != api.OK {
				t.Errorf("table %d: %v, %v", i, got, err)
			}
		}
	}
}

func TestTableOfNothing(t *testing.T) { // a Table{} takes all calls
	x := &Table{}
	first, last := x.Ends()
	e, ok, err := x.Get("a", 1)
	if x.Count() != 0 || x.Blocks() != 0 || first != "" || last != "" || ok || e != (api.Entry{}) || err != api.OK {
		t.Errorf("%d, %d, %q, %q, %v, %v, %v", x.Count(), x.Blocks(), first, last, e, ok, err)
	}
	all, err := x.All()
	some, erra := x.Range("a", "b")
	if len(all) != 0 || err != api.OK || len(some) != 0 || erra != api.OK {
		t.Errorf("%v, %v, %v, %v", all, err, some, erra)
	}
}
