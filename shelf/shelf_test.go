package shelf

import (
	"maps"
	"math"
	"slices"
	"strconv"
	"strings"
	"testing"

	"ravelin/api"
)

// tell tells all that a shelf answers of itself, in one line.
func tell(t *testing.T, s *Shelf) string {
	t.Helper()
	return files(t, s) + "| used " + strconv.Itoa(s.Used()) + ", left " + strconv.Itoa(s.Left()) + ", loose " + strconv.Itoa(s.Loose())
}

// files tells all files of a shelf, in one line.
func files(t *testing.T, s *Shelf) string {
	t.Helper()
	line := ""
	for _, name := range s.Names() {
		b, e := s.Get(name)
		if e != api.OK {
			t.Errorf("%s: %v", name, e)
		}
		line += name + "=" + b + " "
	}
	return line
}

// must holds that no call erred.
func must(t *testing.T, es ...api.Errno) {
	t.Helper()
	for i, e := range es {
		if e != api.OK {
			t.Fatalf("call %d: %v", i, e)
		}
	}
}

// few tells a shelf of 20 bytes' room with three files, one of them empty, and with one loose act.
func few(t *testing.T) *Shelf {
	t.Helper()
	s := New(20)
	must(t, s.Put("a", "1234"), s.Put("b", "56789"), s.Put("empty", ""))
	s.Keep()
	must(t, s.Add("b", "0"))
	return s
}

// full tells a shelf with as many files as there may be, and room to spare.
func full(t *testing.T) *Shelf {
	t.Helper()
	s := New(100)
	for i := range api.MaxFiles {
		must(t, s.Put("f"+strconv.Itoa(i), ""))
	}
	return s
}

// holdErr holds that a call errs in that way, and that it leaves the shelf as it was, behind a crash too.
func holdErr(t *testing.T, name string, s *Shelf, call func(*Shelf) api.Errno, want api.Errno) {
	t.Helper()
	was := s.Copy()
	if e := call(s); e != want {
		t.Errorf("%q: %v, not %v", name, e, want)
	}
	if got, want := tell(t, s), tell(t, was); got != want {
		t.Errorf("%q: %q, not %q", name, got, want)
	}
	for acts := range was.Loose() + 1 {
		a, b := s.Copy(), was.Copy()
		a.Crash(acts, 1)
		b.Crash(acts, 1)
		if got, want := tell(t, a), tell(t, b); got != want {
			t.Errorf("%q, and a crash behind act %d: %q, not %q", name, acts, got, want)
		}
	}
}

func TestNamesThatMayBe(t *testing.T) { // P5.1
	good := []string{"a", "z", "0", "9", "-", "sheet", "log-000001", "tab-999999", "----------------", "abcdefghij-12345", "0123456789012345"}
	bad := []string{"", "A", "Z", "a.b", "a/b", "a b", " a", "a ", "a\n", "a_b", "á", "ab\x00", "\x00", "abcdefghij-123456", strings.Repeat("a", 17), strings.Repeat("a", 1<<20)}
	for c := range 256 {
		name := string([]byte{'x', byte(c), 'y'})
		if 'a' <= c && c <= 'z' || '0' <= c && c <= '9' || c == '-' {
			good = append(good, name)
		} else {
			bad = append(bad, name)
		}
	}
	for _, name := range good {
		s := New(9)
		if e := s.Put(name, "b"); e != api.OK || files(t, s) != name+"=b " {
			t.Errorf("put %q: %v", name, e)
		}
		s = New(9)
		must(t, s.Put("old", "b"))
		if e := s.Swap("old", name); e != api.OK || files(t, s) != name+"=b " {
			t.Errorf("swap to %q: %v", name, e)
		}
	}
	for _, name := range bad {
		holdErr(t, "put "+name, few(t), func(s *Shelf) api.Errno { return s.Put(name, "b") }, api.ErrForm)
		holdErr(t, "swap to "+name, few(t), func(s *Shelf) api.Errno { return s.Swap("a", name) }, api.ErrForm)
		holdErr(t, "swap of "+name, few(t), func(s *Shelf) api.Errno { return s.Swap(name, "a") }, api.ErrFile)
		holdErr(t, "add to "+name, few(t), func(s *Shelf) api.Errno { return s.Add(name, "b") }, api.ErrFile)
		holdErr(t, "drop of "+name, few(t), func(s *Shelf) api.Errno { return s.Drop(name) }, api.ErrFile)
		if b, e := few(t).Get(name); b != "" || e != api.ErrFile {
			t.Errorf("get of %q: %q, %v", name, b, e)
		}
	}
}

func TestActs(t *testing.T) { // P5.1
	s := New(20)
	for i, c := range []struct {
		act  func() api.Errno
		want string
	}{
		{func() api.Errno { return s.Put("b", "23") }, "b=23 | used 2, left 18, loose 1"},
		{func() api.Errno { return s.Put("a", "") }, "a= b=23 | used 2, left 18, loose 2"},
		{func() api.Errno { return s.Put("c", "45\x00\xff") }, "a= b=23 c=45\x00\xff | used 6, left 14, loose 3"},
		{func() api.Errno { return s.Add("a", "1") }, "a=1 b=23 c=45\x00\xff | used 7, left 13, loose 4"},
		{func() api.Errno { return s.Add("a", "") }, "a=1 b=23 c=45\x00\xff | used 7, left 13, loose 5"},
		{func() api.Errno { return s.Add("a", "11") }, "a=111 b=23 c=45\x00\xff | used 9, left 11, loose 6"},
		{func() api.Errno { return s.Swap("a", "d") }, "b=23 c=45\x00\xff d=111 | used 9, left 11, loose 7"},
		{func() api.Errno { return s.Swap("c", "b") }, "b=45\x00\xff d=111 | used 7, left 13, loose 8"},
		{func() api.Errno { return s.Swap("b", "b") }, "b=45\x00\xff d=111 | used 7, left 13, loose 9"},
		{func() api.Errno { return s.Add("d", "2") }, "b=45\x00\xff d=1112 | used 8, left 12, loose 10"},
		{func() api.Errno { return s.Drop("b") }, "d=1112 | used 4, left 16, loose 11"},
		{func() api.Errno { return s.Put("b", "again") }, "b=again d=1112 | used 9, left 11, loose 12"},
		{func() api.Errno { return s.Drop("d") }, "b=again | used 5, left 15, loose 13"},
		{func() api.Errno { return s.Drop("b") }, "| used 0, left 20, loose 14"},
	} {
		if e := c.act(); e != api.OK || tell(t, s) != c.want {
			t.Errorf("act %d: %v, %q, not %q", i, e, tell(t, s), c.want)
		}
	}
}

func TestErrs(t *testing.T) { // P5.1
	long := strings.Repeat("x", 11)
	for name, c := range map[string]struct {
		call func(*Shelf) api.Errno
		want api.Errno
	}{
		"put of one that is there":         {func(s *Shelf) api.Errno { return s.Put("a", "") }, api.ErrFile},
		"put of an empty one that is":      {func(s *Shelf) api.Errno { return s.Put("empty", "") }, api.ErrFile},
		"put of one byte too many":         {func(s *Shelf) api.Errno { return s.Put("c", long) }, api.ErrFull},
		"put, ill-formed, and too many":    {func(s *Shelf) api.Errno { return s.Put("C", long) }, api.ErrForm},
		"put, there, and too many":         {func(s *Shelf) api.Errno { return s.Put("a", long) }, api.ErrFile},
		"add of one byte too many":         {func(s *Shelf) api.Errno { return s.Add("a", long) }, api.ErrFull},
		"add to one that isn't there":      {func(s *Shelf) api.Errno { return s.Add("c", "") }, api.ErrFile},
		"add, not there, and too many":     {func(s *Shelf) api.Errno { return s.Add("c", long) }, api.ErrFile},
		"swap of one that isn't there":     {func(s *Shelf) api.Errno { return s.Swap("c", "a") }, api.ErrFile},
		"swap of that one to itself":       {func(s *Shelf) api.Errno { return s.Swap("c", "c") }, api.ErrFile},
		"swap, ill-formed":                 {func(s *Shelf) api.Errno { return s.Swap("a", "A") }, api.ErrForm},
		"swap, ill-formed, and not there":  {func(s *Shelf) api.Errno { return s.Swap("c", "A") }, api.ErrForm},
		"swap, ill-formed, both the same":  {func(s *Shelf) api.Errno { return s.Swap("A", "A") }, api.ErrForm},
		"drop of one that isn't there":     {func(s *Shelf) api.Errno { return s.Drop("c") }, api.ErrFile},
		"get of one that isn't there":      {func(s *Shelf) api.Errno { _, e := s.Get("c"); return e }, api.ErrFile},
		"get of an ill-formed one":         {func(s *Shelf) api.Errno { _, e := s.Get("A"); return e }, api.ErrFile},
		"get of none":                      {func(s *Shelf) api.Errno { _, e := s.Get(""); return e }, api.ErrFile},
		"add of more than there ever is":   {func(s *Shelf) api.Errno { return s.Add("a", strings.Repeat("x", api.MaxRoom+1)) }, api.ErrFull},
		"put of more than there ever is":   {func(s *Shelf) api.Errno { return s.Put("c", strings.Repeat("x", api.MaxRoom+1)) }, api.ErrFull},
		"add of more to an empty one":      {func(s *Shelf) api.Errno { return s.Add("empty", long) }, api.ErrFull},
		"swap of an empty name":            {func(s *Shelf) api.Errno { return s.Swap("", "a") }, api.ErrFile},
		"swap to an empty name":            {func(s *Shelf) api.Errno { return s.Swap("a", "") }, api.ErrForm},
		"swap, both of them empty":         {func(s *Shelf) api.Errno { return s.Swap("", "") }, api.ErrForm},
		"add to an empty name":             {func(s *Shelf) api.Errno { return s.Add("", "") }, api.ErrFile},
		"drop of an empty name":            {func(s *Shelf) api.Errno { return s.Drop("") }, api.ErrFile},
		"put of an empty name, of nothing": {func(s *Shelf) api.Errno { return s.Put("", "") }, api.ErrForm},
	} {
		holdErr(t, name, few(t), c.call, c.want)
	}
	s := few(t)
	must(t, s.Add("a", long[:10]), s.Add("a", ""), s.Put("c", ""), s.Add("b", ""), s.Swap("a", "b"))
	if got := tell(t, s); got != "b=1234xxxxxxxxxx c= empty= | used 14, left 6, loose 6" {
		t.Errorf("a full one: %s", got)
	}
}

func TestManyFiles(t *testing.T) { // P5.1
	holdErr(t, "one file more", full(t), func(s *Shelf) api.Errno { return s.Put("more", "") }, api.ErrFull)
	holdErr(t, "one file more, ill-formed", full(t), func(s *Shelf) api.Errno { return s.Put("More", "") }, api.ErrForm)
	holdErr(t, "one file more, there", full(t), func(s *Shelf) api.Errno { return s.Put("f59", "") }, api.ErrFile)
	s := full(t)
	must(t, s.Add("f0", "more"), s.Swap("f1", "more"))
	if e := s.Put("f1", ""); e != api.ErrFull {
		t.Errorf("behind a swap to a new name: %v", e)
	}
	must(t, s.Swap("f2", "f3"), s.Put("f1", "x"))
	if e := s.Put("f2", ""); e != api.ErrFull {
		t.Errorf("behind a swap to an old name: %v", e)
	}
	must(t, s.Drop("f4"), s.Put("f2", ""))
	if e := s.Put("f4", ""); e != api.ErrFull || len(s.Names()) != api.MaxFiles {
		t.Errorf("behind a drop: %v, %d", e, len(s.Names()))
	}
	s.Crash(api.MaxFiles-1, 9) // the last put was of 0 bytes
	if n := len(s.Names()); n != api.MaxFiles-1 || s.Put("more", "") != api.OK || s.Put("f59", "") != api.ErrFull {
		t.Errorf("behind a crash: %d", n)
	}
}

func TestNamesRise(t *testing.T) { // P5.1
	s := New(99)
	want := []string{"-", "--", "-a", "0", "00", "1", "10", "2", "9", "a", "a-", "a0", "aa", "ab", "b", "log-000002", "log-000010", "sheet", "z", "zz"}
	for i := range want {
		must(t, s.Put(want[i*7%len(want)], ""))
	}
	if got := s.Names(); !slices.Equal(got, want) {
		t.Errorf("%q", got)
	}
	if got := New(9).Names(); len(got) != 0 {
		t.Errorf("of none: %q", got)
	}
	first, second := s.Names(), s.Names()
	for i := range first[:cap(first)] {
		first[:cap(first)][i] = "changed"
	}
	if !slices.Equal(second, want) || !slices.Equal(s.Names(), want) {
		t.Errorf("behind a change of an answer: %q, %q", second, s.Names())
	}
}

func TestRoom(t *testing.T) { // P5.1
	for n, want := range map[int]int{math.MinInt: 0, -1: 0, 0: 0, 1: 1, 7: 7, api.MaxRoom - 1: api.MaxRoom - 1, api.MaxRoom: api.MaxRoom, api.MaxRoom + 1: api.MaxRoom, math.MaxInt: api.MaxRoom} {
		s := New(n)
		if s.Left() != want || s.Used() != 0 || s.Loose() != 0 || len(s.Names()) != 0 {
			t.Errorf("new, %d: %s", n, tell(t, s))
		}
		s = New(5)
		s.Room(n)
		if s.Left() != want || s.Loose() != 0 {
			t.Errorf("room %d: %s", n, tell(t, s))
		}
		holdErr(t, "one byte more than room", s, func(s *Shelf) api.Errno { return s.Put("a", strings.Repeat("x", want+1)) }, api.ErrFull)
		must(t, s.Put("a", strings.Repeat("x", want)), s.Put("b", ""), s.Add("a", ""))
		if s.Left() != 0 || s.Used() != want {
			t.Errorf("room %d, filled: used %d, left %d", n, s.Used(), s.Left())
		}
		holdErr(t, "one byte more than left", s, func(s *Shelf) api.Errno { return s.Add("b", "x") }, api.ErrFull)
	}
}

func TestLessRoomThanUsed(t *testing.T) { // P5.1
	s := few(t)
	s.Room(4)
	if got := tell(t, s); got != "a=1234 b=567890 empty= | used 10, left 0, loose 1" {
		t.Errorf("those that are there stay: %s", got)
	}
	holdErr(t, "put", s, func(s *Shelf) api.Errno { return s.Put("c", "x") }, api.ErrFull)
	holdErr(t, "add", s, func(s *Shelf) api.Errno { return s.Add("a", "x") }, api.ErrFull)
	must(t, s.Put("c", ""), s.Add("a", ""), s.Swap("b", "c"), s.Drop("a"))
	if got := tell(t, s); got != "c=567890 empty= | used 6, left 0, loose 5" {
		t.Errorf("what takes no room: %s", got)
	}
	s.Crash(0, 0)
	if got := tell(t, s); got != "a=1234 b=56789 empty= | used 9, left 0, loose 0" {
		t.Errorf("the room is no act: %s", got)
	}
	s.Room(10)
	if e := s.Add("a", "x"); e != api.OK || s.Left() != 0 {
		t.Errorf("room again: %v, %s", e, tell(t, s))
	}
}

func TestLoose(t *testing.T) { // P5.2
	s := New(9)
	must(t, s.Put("a", ""), s.Add("a", ""), s.Swap("a", "a"), s.Swap("a", "b"), s.Drop("b"))
	if n := s.Loose(); n != 5 {
		t.Errorf("acts that change little: %d", n)
	}
	s.Get("a")
	s.Names()
	s.Room(7)
	s.Copy()
	if n := s.Loose(); n != 5 {
		t.Errorf("what is no act: %d", n)
	}
	s.Keep()
	if n := s.Loose(); n != 0 {
		t.Errorf("kept: %d", n)
	}
	s.Keep()
	must(t, s.Put("a", "x"))
	if n := s.Loose(); n != 1 {
		t.Errorf("behind what is kept: %d", n)
	}
	s.Crash(1, 0)
	if got := tell(t, s); got != "a=x | used 1, left 6, loose 0" {
		t.Errorf("behind a crash: %s", got)
	}
}

// crashed tells the files behind some acts on two kept ones and a crash.
func crashed(t *testing.T, acts, bytes int, calls ...func(*Shelf) api.Errno) string {
	t.Helper()
	s := New(50)
	must(t, s.Put("k", "kept"), s.Put("o", "old"))
	s.Keep()
	for _, call := range calls {
		must(t, call(s))
	}
	s.Crash(acts, bytes)
	if s.Loose() != 0 || s.Left() != 50-s.Used() {
		t.Errorf("%d, %d: %q", acts, bytes, tell(t, s))
	}
	return strings.TrimSpace(files(t, s))
}

func TestCrashAtOneAct(t *testing.T) { // P5.2
	put := func(name, b string) func(*Shelf) api.Errno {
		return func(s *Shelf) api.Errno { return s.Put(name, b) }
	}
	add := func(name, b string) func(*Shelf) api.Errno {
		return func(s *Shelf) api.Errno { return s.Add(name, b) }
	}
	swap := func(old, name string) func(*Shelf) api.Errno {
		return func(s *Shelf) api.Errno { return s.Swap(old, name) }
	}
	drop := func(name string) func(*Shelf) api.Errno {
		return func(s *Shelf) api.Errno { return s.Drop(name) }
	}
	for name, c := range map[string]struct {
		call func(*Shelf) api.Errno
		want []string // of 0, 1, .. bytes; the last one of all above; then with the act
	}{
		"put":                   {put("n", "new"), []string{"k=kept o=old", "k=kept n=n o=old", "k=kept n=ne o=old", "k=kept n=new o=old", "k=kept n=new o=old"}},
		"put of no byte":        {put("n", ""), []string{"k=kept o=old", "k=kept o=old", "k=kept n= o=old"}},
		"add":                   {add("k", "12"), []string{"k=kept o=old", "k=kept1 o=old", "k=kept12 o=old", "k=kept12 o=old"}},
		"add of no byte":        {add("k", ""), []string{"k=kept o=old", "k=kept o=old", "k=kept o=old"}},
		"swap to an old name":   {swap("k", "o"), []string{"k=kept o=old", "k=kept o=old", "o=kept"}},
		"swap to a new name":    {swap("k", "n"), []string{"k=kept o=old", "k=kept o=old", "n=kept o=old"}},
		"swap to its own name":  {swap("k", "k"), []string{"k=kept o=old", "k=kept o=old", "k=kept o=old"}},
		"drop":                  {drop("k"), []string{"k=kept o=old", "k=kept o=old", "o=old"}},
		"put of a sole byte":    {put("n", "x"), []string{"k=kept o=old", "k=kept n=x o=old", "k=kept n=x o=old"}},
		"put, bytes of a crash": {put("n", "\x00\xff"), []string{"k=kept o=old", "k=kept n=\x00 o=old", "k=kept n=\x00\xff o=old", "k=kept n=\x00\xff o=old"}},
	} {
		last := len(c.want) - 2
		for bytes := -2; bytes <= last+2; bytes++ {
			if got, want := crashed(t, 0, bytes, c.call), c.want[min(max(bytes, 0), last)]; got != want {
				t.Errorf("%s, %d bytes: %q, not %q", name, bytes, got, want)
			}
			if got, want := crashed(t, 1, bytes, c.call), c.want[last+1]; got != want {
				t.Errorf("%s, done, %d bytes: %q, not %q", name, bytes, got, want)
			}
		}
		for _, far := range []int{math.MinInt, math.MaxInt} {
			if got, want := crashed(t, math.MinInt, far, c.call), c.want[held(far, last)]; got != want {
				t.Errorf("%s, %d bytes: %q, not %q", name, far, got, want)
			}
			if got, want := crashed(t, math.MaxInt, far, c.call), c.want[last+1]; got != want {
				t.Errorf("%s, done, %d bytes: %q, not %q", name, far, got, want)
			}
		}
	}
	if got := crashed(t, 3, 3); got != "k=kept o=old" {
		t.Errorf("no act: %q", got)
	}
}

func TestCrashAtOneOfMany(t *testing.T) { // P5.2
	calls := []func(*Shelf) api.Errno{
		func(s *Shelf) api.Errno { return s.Drop("k") },
		func(s *Shelf) api.Errno { return s.Put("k", "") },
		func(s *Shelf) api.Errno { return s.Add("k", "12") },
		func(s *Shelf) api.Errno { return s.Put("n", "new") },
		func(s *Shelf) api.Errno { return s.Swap("n", "o") },
		func(s *Shelf) api.Errno { return s.Add("o", "er") },
		func(s *Shelf) api.Errno { return s.Swap("k", "n") },
		func(s *Shelf) api.Errno { return s.Drop("o") },
		func(s *Shelf) api.Errno { return s.Swap("n", "n") },
		func(s *Shelf) api.Errno { return s.Put("e", "") },
		func(s *Shelf) api.Errno { return s.Swap("n", "e") },
	}
	for acts, want := range [][]string{
		{"k=kept o=old"},
		{"o=old"},
		{"k= o=old", "k=1 o=old", "k=12 o=old"},
		{"k=12 o=old", "k=12 n=n o=old", "k=12 n=ne o=old", "k=12 n=new o=old"},
		{"k=12 n=new o=old"},
		{"k=12 o=new", "k=12 o=newe", "k=12 o=newer"},
		{"k=12 o=newer"},
		{"n=12 o=newer"},
		{"n=12"},
		{"n=12"},
		{"e= n=12"},
		{"e=12"},
	} {
		for bytes := -1; bytes < 9; bytes++ {
			if got, want := crashed(t, acts, bytes, calls...), want[min(max(bytes, 0), len(want)-1)]; got != want {
				t.Errorf("%d acts, %d bytes: %q, not %q", acts, bytes, got, want)
			}
		}
	}
}

func TestGoesOnBehindCrash(t *testing.T) { // P5.2: what was lost shows in nothing that is done behind it
	s := New(50)
	must(t, s.Put("a", "one"))
	s.Keep()
	must(t, s.Add("a", "two"), s.Put("b", "three"))
	s.Crash(0, 1)
	must(t, s.Add("a", "four"), s.Put("b", "five"))
	if got := tell(t, s); got != "a=onetfour b=five | used 12, left 38, loose 2" {
		t.Errorf("%s", got)
	}
	s.Crash(1, 2)
	must(t, s.Add("b", "-"), s.Swap("b", "a"), s.Add("a", "x"))
	s.Crash(2, 0)
	if got := tell(t, s); got != "a=fi- | used 3, left 47, loose 0" {
		t.Errorf("%s", got)
	}
}

func TestKeptStays(t *testing.T) { // P5.3
	s := New(50)
	must(t, s.Put("a", "1"), s.Add("a", "2"), s.Put("b", "3"), s.Swap("b", "c"), s.Put("d", ""), s.Put("e", "5"), s.Drop("e"))
	s.Keep()
	kept := files(t, s)
	for acts := -1; acts < 9; acts++ {
		for bytes := -1; bytes < 9; bytes++ {
			c := s.Copy()
			c.Crash(acts, bytes)
			c.Crash(bytes, acts)
			if got := files(t, c); got != kept {
				t.Errorf("%d, %d: %s, not %s", acts, bytes, got, kept)
			}
			must(t, c.Add("a", "x"), c.Drop("c"), c.Swap("a", "d"), c.Put("a", "y"), c.Drop("d"))
			c.Crash(0, 0)
			if got := files(t, c); got != kept {
				t.Errorf("behind acts, %d, %d: %s, not %s", acts, bytes, got, kept)
			}
		}
	}
	if kept != "a=12 c=3 d= " {
		t.Errorf("%s", kept)
	}
}

func TestCopy(t *testing.T) { // P5.2
	first := func() *Shelf {
		s := New(60)
		must(t, s.Put("a", "one"), s.Put("b", "two"), s.Put("c", ""))
		s.Keep()
		must(t, s.Add("a", strings.Repeat("x", 9)), s.Add("a", "y"), s.Swap("a", "b"), s.Drop("c"), s.Put("d", "three"), s.Drop("b"), s.Put("b", "z"))
		return s
	}
	const want = "b=z d=three | used 6, left 54, loose 7"
	for acts := range 8 {
		for bytes := range 4 {
			s := first()
			a, b := s.Copy(), s.Copy().Copy()
			if tell(t, a) != want || tell(t, b) != want {
				t.Errorf("%s, %s", tell(t, a), tell(t, b))
			}
			a.Crash(acts, bytes)
			s.Crash(acts, bytes)
			must(t, s.Put("q", "-"), s.Put("r", "--"))
			if got, was := files(t, s), files(t, a); got != was+"q=- r=-- " {
				t.Errorf("%d, %d: %s, its copy %s", acts, bytes, got, was)
			}
			if got := tell(t, b); got != want {
				t.Errorf("%d, %d: the other one: %s", acts, bytes, got)
			}
		}
	}
}

func TestCopiesShareNothing(t *testing.T) { // P5.2
	s := New(200)
	must(t, s.Put("a", "12345678"), s.Put("b", "abcdefgh"))
	s.Keep()
	must(t, s.Add("a", "9"), s.Add("b", "i"), s.Swap("b", "c"), s.Put("b", "x"), s.Swap("b", "c"), s.Drop("a"))
	c := s.Copy()
	s.Crash(0, 0)
	must(t, s.Add("a", "of s"), s.Add("b", "of s"))
	s.Room(3)
	s.Keep()
	if got := tell(t, c); got != "c=x | used 1, left 199, loose 6" {
		t.Errorf("%s", got)
	}
	c.Crash(2, 0)
	must(t, c.Add("a", "of c"), c.Add("b", "of c"))
	if a, b := files(t, s), files(t, c); a != "a=12345678of s b=abcdefghof s " || b != "a=123456789of c b=abcdefghiof c " {
		t.Errorf("%s, %s", a, b)
	}
	c.Crash(0, 0)
	if got := tell(t, c); got != "a=123456789 b=abcdefghi | used 18, left 182, loose 0" {
		t.Errorf("%s", got)
	}
}

func TestCopiesGrowApart(t *testing.T) { // P5.2
	s := New(200)
	must(t, s.Put("a", "12345678"), s.Add("a", "9")) // there may be room behind it by now
	c := s.Copy()
	must(t, s.Add("a", "of s"), c.Add("a", "of c"))
	if a, b := files(t, s), files(t, c); a != "a=123456789of s " || b != "a=123456789of c " {
		t.Errorf("%s, %s", a, b)
	}
	d := s.Copy()
	must(t, s.Drop("a"), s.Put("b", ""), d.Swap("a", "c"), d.Put("d", ""))
	s.Crash(3, 0)
	d.Crash(3, 0)
	if a, b := files(t, s), files(t, d); a != "a=123456789of s " || b != "a=123456789of s " {
		t.Errorf("%s, %s", a, b)
	}
}

func TestAnswersStay(t *testing.T) { // P5.1: what Get told isn't touched by what is done behind it
	s := New(99)
	must(t, s.Put("a", "one"))
	s.Keep()
	must(t, s.Add("a", "two"))
	was, _ := s.Get("a")
	s.Crash(0, 0)
	must(t, s.Add("a", "xyz"))
	if is, _ := s.Get("a"); was != "onetwo" || is != "onexyz" {
		t.Errorf("%s, %s", was, is)
	}
}

func TestShelfThatNoNewMade(t *testing.T) { // no call panics
	s := &Shelf{}
	s.Crash(1, 1)
	s.Keep()
	if got := tell(t, s.Copy()); got != "| used 0, left 0, loose 0" {
		t.Errorf("%s", got)
	}
	if s.Add("a", "") != api.ErrFile || s.Swap("a", "b") != api.ErrFile || s.Drop("a") != api.ErrFile || s.Put("a", "x") != api.ErrFull || s.Put("a", "") != api.OK {
		t.Errorf("%s", tell(t, s))
	}
}

// model is a shelf by the words of the promises: what is kept, and the loose acts that are done on it again and again.
type model struct {
	room int
	kept map[string]string
	acts []modelAct
}

type modelAct struct{ kind, name, other, b string }

// after tells the files behind the first acts, with the first bytes of the next one.
func (m *model) after(acts, bytes int) map[string]string {
	now := maps.Clone(m.kept)
	for i, a := range m.acts {
		if i > acts {
			break
		}
		whole := i < acts
		b := a.b
		if !whole {
			b = b[:min(max(bytes, 0), len(b))]
		}
		switch {
		case a.kind == "put" && (whole || b != ""):
			now[a.name] = b
		case a.kind == "add":
			now[a.name] += b
		case a.kind == "swap" && whole:
			file := now[a.other]
			delete(now, a.other)
			now[a.name] = file
		case a.kind == "drop" && whole:
			delete(now, a.name)
		}
	}
	return now
}

// do does an act; other is the old name of a swap.
func (m *model) do(a modelAct) api.Errno {
	now := m.after(len(m.acts), 0)
	used := 0
	for _, b := range now {
		used += len(b)
	}
	_, there := now[a.name]
	_, otherThere := now[a.other]
	ill := a.name == "" || len(a.name) > 16 || strings.Trim(a.name, "abcdefghijklmnopqrstuvwxyz0123456789-") != ""
	large := len(a.b) > 0 && used+len(a.b) > m.room
	switch {
	case (a.kind == "put" || a.kind == "swap") && ill:
		return api.ErrForm
	case a.kind == "put" && there, a.kind == "swap" && !otherThere, (a.kind == "add" || a.kind == "drop") && !there:
		return api.ErrFile
	case a.kind == "put" && (len(now) == 60 || large), a.kind == "add" && large:
		return api.ErrFull
	}
	m.acts = append(m.acts, a)
	return api.OK
}

// doOn does an act on a shelf.
func (a modelAct) doOn(s *Shelf) api.Errno {
	switch a.kind {
	case "put":
		return s.Put(a.name, a.b)
	case "add":
		return s.Add(a.name, a.b)
	case "swap":
		return s.Swap(a.other, a.name)
	}
	return s.Drop(a.name)
}

// line tells the files of a model in one line.
func line(files map[string]string) string {
	out := ""
	for _, name := range slices.Sorted(maps.Keys(files)) {
		out += name + "=" + files[name] + " "
	}
	return out
}

// row is a row of numbers in no plain order, the same each time.
type row uint32

// next tells the next number, from 0 to n-1.
func (r *row) next(n int) int {
	*r = *r*1664525 + 1013904223
	return int(*r>>8) % n
}

// act tells an act of few names and bytes, so that many of them meet.
func (r *row) act() modelAct {
	names := []string{"a", "b", "c", "d", "e", "No", "a", "b"}
	return modelAct{
		kind:  []string{"put", "add", "swap", "drop", "put", "add", "add"}[r.next(7)],
		name:  names[r.next(len(names))],
		other: names[r.next(len(names))],
		b:     "0123456789"[:r.next(8)],
	}
}

func TestLongScripts(t *testing.T) { // P5.1, P5.2, P5.3
	for seed := range 300 {
		r := row(seed)
		s, m := New(30), &model{room: 30, kept: map[string]string{}}
		for step := range 60 {
			switch r.next(12) {
			case 0:
				s.Keep()
				m.kept, m.acts = m.after(len(m.acts), 0), nil
			case 1:
				acts, bytes := r.next(6), r.next(9)-1
				s.Crash(acts, bytes)
				m.kept, m.acts = m.after(acts, bytes), nil
			case 2:
				m.room = r.next(45)
				s.Room(m.room)
			case 3:
				s = s.Copy()
			default:
				a := r.act()
				if got, want := a.doOn(s), m.do(a); got != want {
					t.Fatalf("script %d, step %d: %v: %v, not %v", seed, step, a, got, want)
				}
			}
			now := m.after(len(m.acts), 0)
			if got, want := files(t, s), line(now); got != want || s.Loose() != len(m.acts) || s.Left() != max(0, m.room-s.Used()) {
				t.Fatalf("script %d, step %d: %s, not %s", seed, step, tell(t, s), want)
			}
			acts, bytes := r.next(len(m.acts)+1), r.next(9)
			c := s.Copy()
			c.Crash(acts, bytes)
			if got, want := files(t, c), line(m.after(acts, bytes)); got != want {
				t.Fatalf("script %d, step %d, crash behind %d acts, %d bytes: %s, not %s", seed, step, acts, bytes, got, want)
			}
		}
	}
}

func TestManyAdds(t *testing.T) { // P5.2: up to the limit, byte by byte
	s := New(math.MaxInt)
	must(t, s.Put("a", ""))
	for range api.MaxRoom {
		if e := s.Add("a", "x"); e != api.OK {
			t.Fatal(e)
		}
	}
	if e := s.Add("a", "x"); e != api.ErrFull || s.Left() != 0 || s.Used() != api.MaxRoom || s.Loose() != api.MaxRoom+1 {
		t.Errorf("%v, used %d, left %d, loose %d", e, s.Used(), s.Left(), s.Loose())
	}
	s.Crash(500001, 1)
	if b, e := s.Get("a"); len(b) != 500001 || e != api.OK {
		t.Errorf("%d, %v", len(b), e)
	}
}
