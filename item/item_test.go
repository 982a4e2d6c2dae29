package item

import (
	"math"
	"slices"
	"strings"
	"testing"

	"ravelin/api"
	"ravelin/batch"
	"ravelin/seal"
)

func TestIs(t *testing.T) { // P18.1
	long := strings.Repeat("k", 12)
	for name, c := range map[string]struct {
		x    api.Item
		want bool
	}{
		"nothing at all":                {api.Item{}, false},
		"a Shut of turn 0":              {shutOf(0, 1, 0), true},
		"a Shut, an empty list":         {api.Item{N: 1, Shut: true, Writes: []api.Write{}}, true},
		"a Shut with a write":           {api.Item{N: 1, Shut: true, Writes: []api.Write{putOf("a", "x")}}, false},
		"a Shut with what is no write":  {api.Item{N: 1, Shut: true, Writes: []api.Write{{}}}, false},
		"one write":                     {itemOf(0, 1, 0, putOf("a", "x")), true},
		"one with Del":                  {itemOf(0, 1, 0, delOf("a")), true},
		"no write, and no Shut":         {itemOf(0, 1, 0), false},
		"an empty list, and no Shut":    {itemOf(0, 1, 0, []api.Write{}...), false},
		"level below 0":                 {itemOf(-1, 1, 0, putOf("a", "x")), false},
		"the highest level":             {itemOf(5, 1, 0, putOf("a", "x")), true},
		"one more":                      {itemOf(6, 1, 0, putOf("a", "x")), false},
		"a Shut of one more":            {shutOf(6, 1, 0), false},
		"a Shut of level below 0":       {shutOf(-1, 1, 0), false},
		"N 0":                           {itemOf(0, 0, 0, putOf("a", "x")), false},
		"N below 0":                     {itemOf(0, -1, 0, putOf("a", "x")), false},
		"the greatest N":                {itemOf(0, 1000000, 0, putOf("a", "x")), true},
		"one more N":                    {itemOf(0, 1000001, 0, putOf("a", "x")), false},
		"a Shut of N 0":                 {shutOf(0, 0, 0), false},
		"a Shut of one more N":          {shutOf(0, 1000001, 0), false},
		"turn below 0":                  {itemOf(0, 1, -1, putOf("a", "x")), false},
		"the last turn":                 {itemOf(0, 1, 1000000, putOf("a", "x")), true},
		"one more turn":                 {itemOf(0, 1, 1000001, putOf("a", "x")), false},
		"a Shut of turn below 0":        {shutOf(0, 1, -1), false},
		"a Shut of one more turn":       {shutOf(0, 1, 1000001), false},
		"all at their greatest":         {itemOf(5, 1000000, 1000000, largest()...), true},
		"one write more":                {itemOf(0, 1, 0, append(largest(), putOf("z", ""))...), false},
		"the longest Key":               {itemOf(0, 1, 0, putOf(long, "")), true},
		"a byte more, as batch's have":  {itemOf(0, 1, 0, putOf(long+"k", "")), false},
		"a byte more, the first one":    {itemOf(0, 1, 0, putOf(long+"k", ""), putOf("z", "")), false},
		"a byte more, the last one":     {itemOf(0, 1, 0, putOf("a", ""), putOf("b", ""), delOf(long+"k")), false},
		"no Key":                        {itemOf(0, 1, 0, putOf("", "x")), false},
		"the longest Value":             {itemOf(0, 1, 0, putOf("a", strings.Repeat("v", 24))), true},
		"a byte more of Value":          {itemOf(0, 1, 0, putOf("a", strings.Repeat("v", 25))), false},
		"Del and a Value":               {itemOf(0, 1, 0, api.Write{Key: "a", Del: true, Value: "x"}), false},
		"Keys that rise, byte by byte":  {itemOf(0, 1, 0, putOf("\x00", ""), putOf("\x7f", ""), putOf("\x80", ""), putOf("á", ""), putOf("\xff", "")), true},
		"Keys that fall":                {itemOf(0, 1, 0, putOf("b", ""), putOf("a", "")), false},
		"a Key twice":                   {itemOf(0, 1, 0, putOf("a", "x"), delOf("a")), false},
		"a Shut, all at their greatest": {shutOf(5, 1000000, 1000000), true},
	} {
		if Is(c.x) != c.want {
			t.Errorf("%s: not %v", name, c.want)
		}
		holdItem(t, c.x)
	}
}

func TestIsOfAllNumbers(t *testing.T) { // P18.1: Level, N and Turn about their edges, each with each
	for _, level := range numbers() {
		for _, n := range numbers() {
			for _, turn := range numbers() {
				holdItem(t, shutOf(level, n, turn))
				holdItem(t, itemOf(level, n, turn))
				holdItem(t, itemOf(level, n, turn, example()...))
				holdItem(t, api.Item{Level: level, N: n, Turn: turn, Shut: true, Writes: example()})
			}
		}
	}
}

func TestIsOfAllShortLists(t *testing.T) { // P18.1: of these writes, up to 4 of them, in any order
	some := []api.Write{putOf("a", "x"), delOf("a"), putOf("aa", ""), putOf("b", "y"), putOf(strings.Repeat("b", 13), ""), {}, {Key: "b", Del: true, Value: "x"}}
	var hold func(l []api.Write)
	hold = func(l []api.Write) {
		holdItem(t, itemOf(2, 3, 4, l...))
		holdItem(t, api.Item{Level: 2, N: 3, Turn: 4, Shut: true, Writes: l})
		if len(l) == 4 {
			return
		}
		for _, w := range some {
			hold(append(slices.Clone(l), w))
		}
	}
	hold(nil)
}

func TestIsOfBadWrites(t *testing.T) { // P18.1: one of them at each place, also with Keys rising
	for _, w := range bad() {
		for i := range len(example()) + 1 {
			l := slices.Insert(example(), i, w)
			if Is(itemOf(0, 1, 0, l...)) {
				t.Errorf("%.200v: it is", l)
			}
			slices.SortFunc(l, func(a, b api.Write) int { return strings.Compare(a.Key, b.Key) })
			if Is(itemOf(0, 1, 0, l...)) || Is(itemOf(0, 1, 0, w)) {
				t.Errorf("%.200v: it is", l)
			}
			holdItem(t, itemOf(0, 1, 0, l...))
		}
	}
	for i := range largest() {
		holdItem(t, itemOf(0, 1, 0, largest()[i:]...))
		holdItem(t, itemOf(0, 1, 0, slices.Insert(largest(), i, largest()[i])...))
		holdItem(t, itemOf(0, 1, 0, slices.Insert(largest()[1:], i, putOf("a", ""))...))
	}
}

func TestSame(t *testing.T) { // P18.1: each with each, some of them ill-formed
	all := append(good(), api.Item{}, shutOf(-1, -1, -1), itemOf(1, 2, 3), itemOf(1, 2, 3, putOf("b", ""), putOf("a", "")), itemOf(1, 2, 3, putOf("a", ""), putOf("b", "")))
	for _, w := range bad() {
		all = append(all, itemOf(1, 2, 3, w))
	}
	for i, a := range all {
		for j, b := range all {
			if Same(a, b) != (i == j) || Same(a, b) != sameOf(a, b) {
				t.Errorf("%.200v and %.200v: not %v", a, b, i == j)
			}
		}
	}
	if !Same(api.Item{N: 1}, api.Item{N: 1, Writes: []api.Write{}}) || !Same(api.Item{N: 1, Writes: []api.Write{}}, api.Item{N: 1}) {
		t.Error("a nil list isn't an empty one")
	}
}

func TestSameOfEachPart(t *testing.T) { // P18.1: one part is another one
	for name, change := range map[string]func(x *api.Item){
		"Level":               func(x *api.Item) { x.Level = 4 },
		"N":                   func(x *api.Item) { x.N = 4 },
		"Turn":                func(x *api.Item) { x.Turn = 4 },
		"Level and N":         func(x *api.Item) { x.Level, x.N = x.N, x.Level },
		"N and Turn":          func(x *api.Item) { x.N, x.Turn = x.Turn, x.N },
		"Shut":                func(x *api.Item) { x.Shut = true },
		"no Writes":           func(x *api.Item) { x.Writes = nil },
		"one less":            func(x *api.Item) { x.Writes = x.Writes[:3] },
		"the first one less":  func(x *api.Item) { x.Writes = x.Writes[1:] },
		"one more":            func(x *api.Item) { x.Writes = append(x.Writes, putOf("z", "")) },
		"an empty one more":   func(x *api.Item) { x.Writes = append(x.Writes, api.Write{}) },
		"the first Key":       func(x *api.Item) { x.Writes[0].Key = "A" },
		"the last Key":        func(x *api.Item) { x.Writes[3].Key = "c" },
		"the first Value":     func(x *api.Item) { x.Writes[0].Value = "xz" },
		"the last Value":      func(x *api.Item) { x.Writes[3].Value = "\xff" },
		"Del instead of none": func(x *api.Item) { x.Writes[2].Del = true },
		"none instead of Del": func(x *api.Item) { x.Writes[1].Del = false },
		"in another order":    func(x *api.Item) { slices.Reverse(x.Writes) },
	} {
		x, y := itemOf(1, 2, 3, example()...), itemOf(1, 2, 3, example()...)
		if !Same(x, y) || !Same(y, x) {
			t.Fatalf("%v and %v", x, y)
		}
		if change(&y); Same(x, y) || Same(y, x) {
			t.Errorf("%s: %v and %v", name, x, y)
		}
	}
}

func TestCopy(t *testing.T) { // P18.1
	for _, x := range append(good(), api.Item{}, shutOf(-1, -1, -1), itemOf(9, -2, 3, bad()...), api.Item{Shut: true, Writes: example()}) {
		l := append(slices.Clone(x.Writes), largest()...)
		x.Writes = l[:len(x.Writes)]
		a, b := Copy(x), Copy(x)
		if !sameOf(a, x) || !sameOf(b, x) {
			t.Errorf("%.200v: %.200v, %.200v", x, a, b)
		}
		was := Copy(x)
		clear(a.Writes[:cap(a.Writes)])
		if !sameOf(x, was) || !sameOf(b, was) || !slices.Equal(l[len(x.Writes):], largest()) {
			t.Errorf("%.200v: touched by what was done with its copy", was)
		}
		clear(l)
		if !sameOf(b, was) {
			t.Errorf("%.200v: its copy is touched by what was done with it", was)
		}
	}
}

func TestBytes(t *testing.T) { // P18.2
	for want, x := range map[string]api.Item{
		"\x00\x01\x01\x00\x01\x00":                                                 shutOf(0, 1, 0),
		"\x01\x05\x03\x0f\x42\x40\x03\x0f\x42\x40\x01\x00":                         shutOf(5, 1000000, 1000000),
		"\x01\x01\x01\x02\x01\x03\x00\x01\x01\x01\x01k\x00\x00":                    itemOf(1, 2, 3, putOf("k", "")),
		"\x01\x02\x02\x01\x2c\x00\x00\x01\x02\x01\x01a\x00\x01\x02xy\x01\x01b\x01": itemOf(2, 300, 0, putOf("a", "xy"), delOf("b")),
		"\x00\x01\xff\x02\x01\x00\x00\x01\x01\x01\x02\x00\xff\x01":                 itemOf(0, 255, 256, delOf("\x00\xff")),
	} {
		if got, err := Bytes(x); got != sealOf(want) || err != api.OK {
			t.Errorf("%v: %q, %v", x, got, err)
		}
	}
	if got, err := Bytes(shutOf(0, 1, 0)); got != "\x01\x06\x00\x11\x00\x04\x00\x01\x01\x00\x01\x00" || err != api.OK {
		t.Errorf("byte by byte: %q, %v", got, err)
	}
	if got, err := Bytes(itemOf(1, 2, 3, putOf("k", ""))); got != "\x01\x0e\x01\xc7\x00\x79\x01\x01\x01\x02\x01\x03\x00\x01\x01\x01\x01k\x00\x00" || err != api.OK {
		t.Errorf("byte by byte: %q, %v", got, err)
	}
}

func TestWritesAreAsInABatch(t *testing.T) { // P18.2: how many, and each as in batch's Bytes
	for _, x := range good() {
		sealed, err := batch.Bytes(7, x.Writes)
		if err != api.OK {
			t.Fatalf("%v: %v", x, err)
		}
		inBatch, _, _ := seal.Open(sealed)
		inItem, _, _ := seal.Open(made(t, x))
		head := number(x.Level) + number(x.N) + number(x.Turn)
		if inBatch[len(number(7)):] != inItem[len(head)+1:] {
			t.Errorf("%v: %q, %q", x, inItem, inBatch)
		}
	}
}

func TestBytesErr(t *testing.T) { // P18.2: of what is no item
	for _, x := range []api.Item{{}, {N: 1}, shutOf(6, 1, 0), shutOf(-1, 1, 0), shutOf(0, 0, 0), shutOf(0, 1000001, 0), shutOf(0, 1, -1), shutOf(0, 1, 1000001), itemOf(0, 1, 0), itemOf(0, 1, 0, putOf("b", ""), putOf("a", "")), itemOf(0, 1, 0, append(largest(), putOf("z", ""))...), itemOf(0, 1, 0, putOf(strings.Repeat("k", 13), "")), {N: 1, Shut: true, Writes: example()}} {
		if s, err := Bytes(x); s != "" || err != api.ErrForm {
			t.Errorf("%v: %q, %v", x, s, err)
		}
	}
	for _, w := range bad() {
		if s, err := Bytes(itemOf(0, 1, 0, w)); s != "" || err != api.ErrForm {
			t.Errorf("%.200v: %q, %v", w, s, err)
		}
	}
}

func TestRead(t *testing.T) { // P18.2, P18.3
	for _, x := range good() {
		s := made(t, x)
		for _, behind := range []string{"", "\x00", "\xff", "behind", sealOf("x"), s, s[:len(s)-1]} {
			if got, size, err := Read(s + behind); !sameOf(got, x) || size != len(s) || err != api.OK {
				t.Errorf("%v, %.20q behind: %v, %d, %v", x, behind, got, size, err)
			}
		}
		for at := range s {
			if got, size, err := Read(s[:at]); !isNone(got, size) || err != api.ErrShort {
				t.Errorf("%v, cut at %d: %v, %d, %v", x, at, got, size, err)
			}
		}
	}
}

func TestReadErrs(t *testing.T) { // P18.2
	whole := made(t, itemOf(0, 4, 0, putOf("a", "x")))
	head := "\x00\x01\x04\x00\x00"
	eight, nine := "", ""
	for i := range 9 {
		eight = nine
		nine += string([]byte{1, 1, byte('a' + i), 1})
	}
	for name, c := range map[string]struct {
		s    string
		want api.Errno
	}{
		"no byte":                         {"", api.ErrShort},
		"a byte less":                     {whole[:len(whole)-1], api.ErrShort},
		"its number alone":                {whole[:2], api.ErrShort},
		"no number":                       {"\x09", api.ErrSpoilt},
		"a number with a 0 ahead":         {"\x02\x00" + whole[1:], api.ErrSpoilt},
		"another Value":                   {whole[:len(whole)-1] + "y", api.ErrSpoilt},
		"another sum, and ill-formed":     {"\x01\x01\x00\x00\x00\x01\xff", api.ErrSpoilt},
		"nothing sealed":                  {sealOf(""), api.ErrForm},
		"an item sealed twice":            {sealOf(whole), api.ErrForm},
		"a batch":                         {sealOf("\x01\x04\x01\x01\x01\x01a\x00\x01\x01x"), api.ErrForm},
		"Level is no number":              {sealOf("\x09\x01\x04\x00\x01\x00"), api.ErrForm},
		"Level of which bytes lack":       {sealOf("\x03\x01"), api.ErrForm},
		"Level with a 0 ahead":            {sealOf("\x01\x00\x01\x04\x00\x01\x00"), api.ErrForm},
		"Level alone":                     {sealOf("\x00"), api.ErrForm},
		"the highest Level":               {sealOf("\x01\x05\x01\x04\x00\x01\x00"), api.OK},
		"one more Level":                  {sealOf("\x01\x06\x01\x04\x00\x01\x00"), api.ErrForm},
		"Level the greatest int":          {sealOf(number(math.MaxInt) + "\x01\x04\x00\x01\x00"), api.ErrForm},
		"Level no int":                    {sealOf("\x08\x80\x00\x00\x00\x00\x00\x00\x00\x01\x04\x00\x01\x00"), api.ErrForm},
		"N is no number":                  {sealOf("\x00\x09\x00\x01\x00"), api.ErrForm},
		"N of which bytes lack":           {sealOf("\x00\x02\x01"), api.ErrForm},
		"N with a 0 ahead":                {sealOf("\x00\x02\x00\x04\x00\x01\x00"), api.ErrForm},
		"Level and N alone":               {sealOf("\x00\x01\x04"), api.ErrForm},
		"N 0":                             {sealOf("\x00\x00\x00\x01\x00"), api.ErrForm},
		"the greatest N":                  {sealOf("\x00\x03\x0f\x42\x40\x00\x01\x00"), api.OK},
		"one more N":                      {sealOf("\x00\x03\x0f\x42\x41\x00\x01\x00"), api.ErrForm},
		"N the greatest int":              {sealOf("\x00" + number(math.MaxInt) + "\x00\x01\x00"), api.ErrForm},
		"Turn is no number":               {sealOf("\x00\x01\x04\x09\x01\x00"), api.ErrForm},
		"Turn of which bytes lack":        {sealOf("\x00\x01\x04\x02\x01"), api.ErrForm},
		"Turn with a 0 ahead":             {sealOf("\x00\x01\x04\x01\x00\x01\x00"), api.ErrForm},
		"no byte behind Turn":             {sealOf("\x00\x01\x04\x00"), api.ErrForm},
		"the last Turn":                   {sealOf("\x00\x01\x04\x03\x0f\x42\x40\x01\x00"), api.OK},
		"one more Turn":                   {sealOf("\x00\x01\x04\x03\x0f\x42\x41\x01\x00"), api.ErrForm},
		"Turn no int":                     {sealOf("\x00\x01\x04\x08\xff\xff\xff\xff\xff\xff\xff\xff\x01\x00"), api.ErrForm},
		"a Shut":                          {sealOf("\x00\x01\x04\x00\x01\x00"), api.OK},
		"a Shut, not how many":            {sealOf("\x00\x01\x04\x00\x01"), api.ErrForm},
		"a Shut, how many with a 0 ahead": {sealOf("\x00\x01\x04\x00\x01\x01\x00"), api.ErrForm},
		"a Shut, how many is no number":   {sealOf("\x00\x01\x04\x00\x01\x09"), api.ErrForm},
		"a Shut, a byte behind":           {sealOf("\x00\x01\x04\x00\x01\x00\x00"), api.ErrForm},
		"a Shut, a write behind":          {sealOf("\x00\x01\x04\x00\x01\x00\x01\x01a\x01"), api.ErrForm},
		"a Shut of one write":             {sealOf("\x00\x01\x04\x00\x01\x01\x01\x01\x01a\x01"), api.ErrForm},
		"a Shut of one that lacks":        {sealOf("\x00\x01\x04\x00\x01\x01\x01"), api.ErrForm},
		"neither 0 nor 1, none":           {sealOf("\x00\x01\x04\x00\x02\x00"), api.ErrForm},
		"neither 0 nor 1, one":            {sealOf("\x00\x01\x04\x00\x02\x01\x01\x01\x01a\x01"), api.ErrForm},
		"the highest byte, none":          {sealOf("\x00\x01\x04\x00\xff\x00"), api.ErrForm},
		"the highest byte, one":           {sealOf("\x00\x01\x04\x00\xff\x01\x01\x01\x01a\x01"), api.ErrForm},
		"no Shut, not how many":           {sealOf(head), api.ErrForm},
		"no Shut, none":                   {sealOf(head + "\x00"), api.ErrForm},
		"no Shut, none, a write behind":   {sealOf(head + "\x00\x01\x01a\x01"), api.ErrForm},
		"how many is no number":           {sealOf(head + "\xff"), api.ErrForm},
		"how many has a 0 ahead":          {sealOf(head + "\x02\x00\x01\x01\x01a\x01"), api.ErrForm},
		"one":                             {sealOf(head + "\x01\x01\x01\x01a\x01"), api.OK},
		"one that lacks":                  {sealOf(head + "\x01\x01"), api.ErrForm},
		"the second lacks":                {sealOf(head + "\x01\x02\x01\x01a\x01"), api.ErrForm},
		"the greatest int of them":        {sealOf(head + number(math.MaxInt)), api.ErrForm},
		"the greatest int, one there":     {sealOf(head + number(math.MaxInt) + "\x01\x01a\x01"), api.ErrForm},
		"eight":                           {sealOf(head + "\x01\x08" + eight), api.OK},
		"nine":                            {sealOf(head + "\x01\x09" + nine), api.ErrForm},
		"nine, eight there":               {sealOf(head + "\x01\x09" + eight), api.ErrForm},
		"eight, nine there":               {sealOf(head + "\x01\x08" + nine), api.ErrForm},
		"no Key":                          {sealOf(head + "\x01\x01\x00\x01"), api.ErrForm},
		"a Key of which bytes lack":       {sealOf(head + "\x01\x01\x01\x05abcd"), api.ErrForm},
		"a Key of the greatest int":       {sealOf(head + "\x01\x01" + number(math.MaxInt) + "abcd"), api.ErrForm},
		"the longest Key":                 {sealOf(head + "\x01\x01\x01\x0c" + strings.Repeat("k", 12) + "\x01"), api.OK},
		"a byte more, as batch's have":    {sealOf(head + "\x01\x01\x01\x0d" + strings.Repeat("k", 13) + "\x01"), api.ErrForm},
		"a large Key":                     {sealOf(head + "\x01\x01" + text(strings.Repeat("k", 1<<20)) + "\x01"), api.ErrForm},
		"no byte behind the Key":          {sealOf(head + "\x01\x01\x01\x01a"), api.ErrForm},
		"a byte that is neither":          {sealOf(head + "\x01\x01\x01\x01a\x02"), api.ErrForm},
		"no Value":                        {sealOf(head + "\x01\x01\x01\x01a\x00"), api.ErrForm},
		"an empty Value":                  {sealOf(head + "\x01\x01\x01\x01a\x00\x00"), api.OK},
		"the longest Value":               {sealOf(head + "\x01\x01\x01\x01a\x00\x01\x18" + strings.Repeat("v", 24)), api.OK},
		"a byte more of Value":            {sealOf(head + "\x01\x01\x01\x01a\x00\x01\x19" + strings.Repeat("v", 25)), api.ErrForm},
		"a Value behind Del":              {sealOf(head + "\x01\x01\x01\x01a\x01\x01\x01x"), api.ErrForm},
		"a byte behind, sealed":           {sealOf(head + "\x01\x01\x01\x01a\x00\x00x"), api.ErrForm},
		"Keys that fall":                  {sealOf(head + "\x01\x02\x01\x01b\x01\x01\x01a\x01"), api.ErrForm},
		"a Key twice":                     {sealOf(head + "\x01\x02\x01\x01a\x01\x01\x01a\x00\x00"), api.ErrForm},
		"ill-formed, another one behind":  {sealOf("x") + whole, api.ErrForm},
		"a Shut of one, another behind":   {sealOf("\x00\x01\x04\x00\x01\x01\x01\x01\x01a\x01") + whole, api.ErrForm},
		"very many, of which all are":     {sealOf(head + number(1<<20) + strings.Repeat("\x00\x01", 1<<20)), api.ErrForm},
		"one, a million bytes behind":     {sealOf(head + "\x01\x01\x01\x01a\x01" + strings.Repeat("\x00", 1<<20)), api.ErrForm},
		"a good one, ill-formed behind":   {whole + "\xff", api.OK},
		"a good one, a spoilt one behind": {whole + sealOf("x")[:6], api.OK},
	} {
		x, size, err := Read(c.s)
		if err != c.want || err != api.OK && !isNone(x, size) {
			t.Errorf("%s: %v, %d, %v", name, x, size, err)
		}
		holdRead(t, c.s)
	}
}

func TestReadOfWhatIsNot(t *testing.T) { // P18.2: laid out well, but no item
	hold := func(x api.Item) {
		t.Helper()
		if got, size, err := Read(sealOf(layOf(x))); !isNone(got, size) || err != api.ErrForm {
			t.Errorf("%.200v: %v, %d, %v", x, got, size, err)
		}
	}
	for _, w := range bad() {
		if w.Del && w.Value != "" { // it can't be laid out
			continue
		}
		for i := range len(example()) + 1 {
			hold(itemOf(1, 2, 3, slices.Insert(example(), i, w)...))
		}
	}
	for i := range example() {
		for j := range i {
			l := example()
			l[i], l[j] = l[j], l[i]
			hold(itemOf(1, 2, 3, l...))
		}
	}
	for i := range len(example()) {
		hold(api.Item{Level: 1, N: 2, Turn: 3, Shut: true, Writes: example()[:i+1]})
	}
	for _, level := range numbers() {
		for _, n := range numbers() {
			for _, turn := range numbers() {
				if level >= 0 && n >= 0 && turn >= 0 {
					holdRead(t, sealOf(layOf(shutOf(level, n, turn))))
					holdRead(t, sealOf(layOf(itemOf(level, n, turn))))
					holdRead(t, sealOf(layOf(itemOf(level, n, turn, example()...))))
				}
			}
		}
	}
}

func TestReadOfChangedBytes(t *testing.T) { // P18.2: each byte turned to every other one, sealed before and behind
	for _, x := range []api.Item{shutOf(0, 1, 0), shutOf(5, 300, 256), itemOf(0, 4, 0, delOf("a")), itemOf(2, 300, 300, example()...), itemOf(5, 1000000, 1000000, largest()[:3]...)} {
		b := []byte(layOf(x))
		for i, was := range b {
			for c := range 256 {
				b[i] = byte(c)
				holdRead(t, sealOf(string(b)))
			}
			b[i] = was
			holdRead(t, sealOf(string(b[:i])))
			holdRead(t, sealOf(string(b[i:])))
			holdRead(t, sealOf(string(slices.Delete(slices.Clone(b), i, i+1))))
			holdRead(t, sealOf(string(slices.Insert(slices.Clone(b), i, 0))))
			holdRead(t, sealOf(string(slices.Insert(slices.Clone(b), i, was))))
		}
		s := []byte(sealOf(string(b)))
		for i, was := range s {
			for c := range 256 {
				s[i] = byte(c)
				holdRead(t, string(s))
				if got, _, err := Read(string(s)); byte(c) != was && (!isNone(got, 0) || err == api.OK) {
					t.Errorf("%q, byte %d changed to %d: %v, %v", s, i, c, got, err)
				}
			}
			s[i] = was
		}
	}
}

func TestReadOfAllShortTexts(t *testing.T) { // P18.2: of these bytes, up to 7 of them, and so behind some heads
	some := []byte{0, 1, 2, 8, 'a'}
	var hold func(s string, left int)
	hold = func(s string, left int) {
		holdRead(t, sealOf(s))
		if left == 0 {
			return
		}
		for _, c := range some {
			hold(s+string([]byte{c}), left-1)
		}
	}
	hold("", 7)
	hold("\x00\x01\x01\x00", 6)
	hold("\x00\x01\x01\x00\x00\x01\x01", 6)
	hold("\x01\x02\x01\x02\x00\x00\x01\x02\x01\x01\x01\x01", 6)
}

func TestWhatIsSentIsRead(t *testing.T) { // P18.3: items one behind the other, of every Level, many N and Turns
	var sent []api.Item
	var all strings.Builder
	for level := range 6 {
		for n := 1; n <= 1000000; n += 1 + n/3 {
			for _, turn := range []int{0, 1, n - 1, n, 1000000} {
				sent = append(sent, shutOf(level, n, turn), itemOf(level, n, turn, example()[:1+n%4]...), itemOf(level, n, turn, largest()[n%8:]...))
			}
		}
	}
	for _, x := range sent {
		all.WriteString(made(t, x))
	}
	left := all.String()
	for i, x := range sent {
		got, size, err := Read(left)
		if !sameOf(got, x) || !Same(got, x) || err != api.OK || left[:size] != made(t, x) {
			t.Fatalf("%d: %v, %d, %v, not %v", i, got, size, err, x)
		}
		left = left[size:]
	}
	if left != "" {
		t.Errorf("%d bytes are left", len(left))
	}
}

func TestNothingHandedInIsChanged(t *testing.T) { // the room behind it too
	whole := append(example(), largest()...)
	was := slices.Clone(whole)
	for size := range len(whole) + 1 {
		for _, shut := range []bool{false, true} {
			x := api.Item{Level: 1, N: 2, Turn: 3, Shut: shut, Writes: whole[:size]}
			Is(x)
			Same(x, x)
			Copy(x)
			Bytes(x)
			if !slices.Equal(whole, was) {
				t.Fatalf("%d of them: %v, not %v any more", size, whole, was)
			}
		}
	}
}

func TestAnswersAreNew(t *testing.T) { // no answer is touched by what is done with another one, nor an argument by an answer
	x := itemOf(1, 2, 3, example()...)
	s := made(t, x)
	var told []api.Item
	for range 2 {
		read, _, _ := Read(s)
		told = append(told, Copy(x), read)
	}
	for i, y := range told {
		if !sameOf(y, itemOf(1, 2, 3, example()...)) {
			t.Errorf("%d: %v", i, y)
		}
		clear(y.Writes[:cap(y.Writes)])
	}
	if !slices.Equal(x.Writes, example()) {
		t.Errorf("%v", x)
	}
}
