package item

import (
	"bytes"
	"encoding/binary"
	"hash/adler32"
	"math"
	"slices"
	"strings"
	"testing"

	"ravelin/api"
	"ravelin/cell"
	"ravelin/seal"
)

// putOf tells a write with a Value.
func putOf(key, value string) api.Write { return api.Write{Key: key, Value: value} }

// delOf tells a write with Del.
func delOf(key string) api.Write { return api.Write{Key: key, Del: true} }

// itemOf tells an item of these writes.
func itemOf(level, n, turn int, l ...api.Write) api.Item {
	return api.Item{Level: level, N: n, Turn: turn, Writes: l}
}

// shutOf tells a Shut.
func shutOf(level, n, turn int) api.Item {
	return api.Item{Level: level, N: n, Turn: turn, Shut: true}
}

// number tells a number as a cell.
func number(n int) string {
	digits := bytes.TrimLeft(binary.BigEndian.AppendUint64(nil, uint64(n)), "\x00")
	return string([]byte{byte(len(digits))}) + string(digits)
}

// text tells a text as a cell.
func text(s string) string { return number(len(s)) + s }

// sealOf seals a text.
func sealOf(s string) string {
	return number(len(s)) + string(binary.BigEndian.AppendUint32(nil, adler32.Checksum([]byte(s)))) + s
}

// piece lays one write out by the words of P12.1, whether it is one or not.
func piece(w api.Write) string {
	if w.Del {
		return text(w.Key) + "\x01"
	}
	return text(w.Key) + "\x00" + text(w.Value)
}

// layOf lays an item out by the words of P18.2, not sealed, whether it is one or not (no number below 0).
func layOf(x api.Item) string {
	s := number(x.Level) + number(x.N) + number(x.Turn)
	if x.Shut {
		s += "\x01"
	} else {
		s += "\x00"
	}
	s += number(len(x.Writes))
	for _, w := range x.Writes {
		s += piece(w)
	}
	return s
}

// isOf works out Is by the words of P18.1 (and of P12.1, of the writes).
func isOf(x api.Item) bool {
	good := 0 <= x.Level && x.Level <= 5 && 1 <= x.N && x.N <= 1000000 && 0 <= x.Turn && x.Turn <= 1000000
	if x.Shut {
		return good && len(x.Writes) == 0
	}
	good = good && 1 <= len(x.Writes) && len(x.Writes) <= 8
	for i, w := range x.Writes {
		good = good && 1 <= len(w.Key) && len(w.Key) <= 12 && len(w.Value) <= 24 && (!w.Del || w.Value == "")
		good = good && (i == 0 || bytes.Compare([]byte(x.Writes[i-1].Key), []byte(w.Key)) < 0)
	}
	return good
}

// sameOf works out Same by the words of P18.1.
func sameOf(a, b api.Item) bool {
	same := a.Level == b.Level && a.N == b.N && a.Turn == b.Turn && a.Shut == b.Shut && len(a.Writes) == len(b.Writes)
	for i := range a.Writes {
		same = same && a.Writes[i].Key == b.Writes[i].Key && a.Writes[i].Del == b.Writes[i].Del && a.Writes[i].Value == b.Writes[i].Value
	}
	return same
}

// bytesOf works out Bytes by the words of P18.2.
func bytesOf(x api.Item) (string, api.Errno) {
	if !isOf(x) {
		return "", api.ErrForm
	}
	return sealOf(layOf(x)), api.OK
}

// readOf works out Read by the words of P18.2: all that can be taken of what was opened is taken, and laid out again.
func readOf(s string) (api.Item, int, api.Errno) {
	opened, size, err := seal.Open(s)
	if err != api.OK {
		return api.Item{}, 0, err
	}
	left, good := opened, true
	num := func() int {
		n, k, err := cell.TakeNum(left)
		left, good = left[k:], good && err == api.OK
		return n
	}
	word := func() string {
		x, k, err := cell.TakeText(left)
		left, good = left[k:], good && err == api.OK
		return x
	}
	flag := func() bool {
		if left == "" {
			good = false
			return false
		}
		c := left[0]
		left, good = left[1:], good && c <= 1
		return c == 1
	}
	x := api.Item{Level: num(), N: num(), Turn: num()}
	x.Shut = flag()
	for many := num(); good && left != "" && len(x.Writes) < many; {
		w := api.Write{Key: word(), Del: flag()}
		if !w.Del {
			w.Value = word()
		}
		x.Writes = append(x.Writes, w)
	}
	if made, err := bytesOf(x); !good || left != "" || err != api.OK || made != sealOf(opened) {
		return api.Item{}, 0, api.ErrForm
	}
	return x, size, api.OK
}

// isNone tells whether nothing is there beside an error.
func isNone(x api.Item, size int) bool { return sameOf(x, api.Item{}) && size == 0 }

// holdRead holds Read of bytes against the words.
func holdRead(t *testing.T, s string) {
	t.Helper()
	x, size, err := Read(s)
	if wx, wsize, werr := readOf(s); !sameOf(x, wx) || size != wsize || err != werr {
		t.Errorf("%.80q: %v, %d, %v, not %v, %d, %v", s, x, size, err, wx, wsize, werr)
	}
}

// holdItem holds all that is told of an item against the words, and that what is handed in isn't changed.
func holdItem(t *testing.T, x api.Item) {
	t.Helper()
	was := x
	was.Writes = slices.Clone(x.Writes)
	if Is(x) != isOf(x) {
		t.Errorf("%.200v: Is not %v", x, isOf(x))
	}
	if got := Copy(x); !sameOf(got, x) || !Same(got, x) || !Same(x, x) {
		t.Errorf("%.200v: Copy %.200v", x, got)
	}
	s, err := Bytes(x)
	if want, werr := bytesOf(x); s != want || err != werr {
		t.Errorf("%.200v: %q, %v, not %q, %v", x, s, err, want, werr)
	}
	if err == api.OK {
		if got, size, err := Read(s); !sameOf(got, x) || size != len(s) || err != api.OK {
			t.Errorf("%v: read as %v, %d, %v", x, got, size, err)
		}
	}
	if !sameOf(x, was) {
		t.Errorf("%.200v, not %.200v any more", x, was)
	}
}

// made tells Bytes of an item that is one.
func made(t *testing.T, x api.Item) string {
	t.Helper()
	s, err := Bytes(x)
	if err != api.OK {
		t.Fatalf("%v: %v", x, err)
	}
	return s
}

// example tells plain writes.
func example() []api.Write {
	return []api.Write{putOf("a", "xy"), delOf("b"), putOf("ba", ""), putOf("c\x00", "\xff\x01")}
}

// largest tells as many writes as an item has at most, of the longest Keys and Values.
func largest() []api.Write {
	var l []api.Write
	for i := range 8 {
		l = append(l, putOf(strings.Repeat("k", 11)+string([]byte{byte('a' + i)}), strings.Repeat("v", 24)))
	}
	return l
}

// good tells items that are some, of each kind and about each edge.
func good() []api.Item {
	return []api.Item{shutOf(0, 1, 0), shutOf(5, 1000000, 1000000), shutOf(3, 256, 255), itemOf(0, 1, 0, delOf("a")), itemOf(1, 2, 3, putOf("a", "")), itemOf(2, 65536, 256, example()...), itemOf(5, 1000000, 1000000, largest()...)}
}

// bad tells writes that an item can't have.
func bad() []api.Write {
	return []api.Write{{}, putOf("", "x"), delOf(""), putOf(strings.Repeat("k", 13), ""), delOf(strings.Repeat("k", 13)), putOf(strings.Repeat("k", 14), ""), putOf("k", strings.Repeat("v", 25)),
		{Key: "k", Del: true, Value: "x"}, {Key: "k", Del: true, Value: "\x00"}, {Del: true, Value: "x"}, putOf(strings.Repeat("k", 1<<16), strings.Repeat("v", 1<<16)), putOf(strings.Repeat("á", 7), ""), putOf("k", strings.Repeat("á", 13))}
}

// numbers tells some about the edges, and where a cell has a byte more.
func numbers() []int {
	return []int{math.MinInt, math.MinInt32, -1000000, -1, 0, 1, 2, 4, 5, 6, 7, 127, 128, 255, 256, 65535, 65536, 999999, 1000000, 1000001, 1 << 24, 1 << 32, 1<<32 + 1, math.MaxInt - 1, math.MaxInt}
}
