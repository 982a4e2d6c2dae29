package sieve

import (
	"math/big"
	"slices"
	"strconv"
	"strings"
	"testing"

	"ravelin/cell"
)

// keyTexts tells keys of many kinds: of no byte, of any bytes, of all lengths that a key has and of more.
func keyTexts() []string {
	keys := []string{"", "\x00", "\x00\x00", "\n", "a", "b", "ab", "ba", "a\x00", "\x7f", "\x80", "\xff", "á", "\xc3", "key", " key", cell.Num(300), cell.Text("key")}
	for size := 1; size < 20; size++ {
		keys = append(keys, strings.Repeat("k", size), strings.Repeat("\xff", size), mixed(size, size))
	}
	return append(keys, mixed(1000, 3), strings.Repeat("x", 5000))
}

// mixed tells a text of that many bytes, in no plain order; from another one on, another text.
func mixed(size, from int) string {
	b := make([]byte, size)
	for i := range b {
		b[i] = byte((i+from)*(i+from)*7 + i*31 + from*from/256 + 5)
	}
	return string(b)
}

// numbered tells that many keys, each another one.
func numbered(n int) []string {
	keys := make([]string, n)
	for i := range keys {
		keys[i] = "k" + strconv.Itoa(i)
	}
	return keys
}

// hashOf works out Hash by the words of P7.1, by numbers that never wrap round.
func hashOf(key string) (uint32, uint32) {
	whole := new(big.Int).Lsh(big.NewInt(1), 32)
	a, b := big.NewInt(5381), big.NewInt(52711)
	for _, c := range []byte(key) {
		a.Mul(a, big.NewInt(33)).Add(a, big.NewInt(int64(c))).Mod(a, whole)
		b.Mul(b, big.NewInt(31)).Xor(b, big.NewInt(int64(c))).Mod(b, whole)
	}
	return uint32(a.Uint64()), uint32(b.SetBit(b, 0, 1).Uint64())
}

// placesOf works out a key's four bits of that many by the words of P7.1.
func placesOf(key string, bits int) []int {
	a, b := hashOf(key)
	var places []int
	for times := range int64(4) {
		sum := new(big.Int).Mul(big.NewInt(int64(b)), big.NewInt(times))
		sum.Add(sum, big.NewInt(int64(a)))
		places = append(places, int(sum.Mod(sum, big.NewInt(int64(bits))).Int64()))
	}
	return places
}

// packed tells bits as bytes by the words of P7.1.
func packed(bits []bool) string {
	b := make([]byte, len(bits)/8)
	for i := range bits {
		if bits[i] {
			b[i/8] += byte([]int{1, 2, 4, 8, 16, 32, 64, 128}[i%8])
		}
	}
	return string(b)
}

// makeOf works out Make by the words of P7.1.
func makeOf(keys []string) string {
	size := 8 * len(keys)
	for size < 64 || size%8 != 0 {
		size++
	}
	bits := make([]bool, size)
	for _, key := range keys {
		for _, place := range placesOf(key, size) {
			bits[place] = true
		}
	}
	return packed(bits)
}

// mayOf works out May by the words of P7.2.
func mayOf(s, key string) bool {
	if s == "" {
		return true
	}
	all := true
	for _, place := range placesOf(key, 8*len(s)) {
		all = all && s[place/8]/[]byte{1, 2, 4, 8, 16, 32, 64, 128}[place%8]%2 == 1
	}
	return all
}

// holdMay holds May of a sieve and a key against the words.
func holdMay(t *testing.T, s, key string) {
	t.Helper()
	if got, want := May(s, key), mayOf(s, key); got != want {
		t.Errorf("%.40q in %.80q: %v, not %v", key, s, got, want)
	}
}

func TestHash(t *testing.T) { // P7.1
	for key, want := range map[string][2]uint32{
		"":                         {5381, 52711},
		"\x00":                     {177573, 1634041},
		"\x00\x00":                 {5859909, 50655271},
		"\n":                       {177583, 1634035},
		"a":                        {177670, 1633945},
		"b":                        {177671, 1633947},
		"ab":                       {5863208, 50652171},
		"ba":                       {5863240, 50652325},
		"\x80":                     {177701, 1633913},
		"\xff":                     {177828, 1633799},
		"á":                        {5866505, 50649511},
		"key":                      {193496974, 1570215405},
		" key":                     {2087743566, 1434094743},
		"0123456789ab":             {2063937461, 107669047},
		strings.Repeat("\xff", 13): {2367889496, 919737659},
		strings.Repeat("x", 100):   {2772255845, 2024781287},
		strings.Repeat("x", 1e5):   {1910858757, 3184201191},
	} {
		if a, b := Hash(key); a != want[0] || b != want[1] {
			t.Errorf("%.40q: %d, %d, not %d, %d", key, a, b, want[0], want[1])
		}
	}
	for _, key := range keyTexts() {
		a, b := Hash(key)
		if wa, wb := hashOf(key); a != wa || b != wb {
			t.Errorf("%.40q: %d, %d, not %d, %d", key, a, b, wa, wb)
		}
	}
}

func TestHashOfAllShortKeys(t *testing.T) { // P7.1: each byte, ahead and behind; the lowest bit of b, too
	hold := func(key string) {
		a, b := Hash(key)
		if wa, wb := hashOf(key); a != wa || b != wb || b%2 != 1 {
			t.Errorf("%q: %d, %d, not %d, %d", key, a, b, wa, wb)
		}
	}
	for first := range 256 {
		hold(string([]byte{byte(first)}))
		for _, second := range []byte{0, 1, 2, 0x7f, 0x80, 0xfe, 0xff} {
			hold(string([]byte{byte(first), second}))
			hold(string([]byte{second, byte(first), 'z'}))
		}
	}
}

func TestMake(t *testing.T) { // P7.1
	for name, c := range map[string]struct {
		keys []string
		want string
	}{
		"nothing":                     {nil, "\x00\x00\x00\x00\x00\x00\x00\x00"},
		"an empty list":               {[]string{}, "\x00\x00\x00\x00\x00\x00\x00\x00"},
		"a key of no byte":            {[]string{""}, "\x20\x00\x08\x00\x00\x10\x00\x04"},
		"one key":                     {[]string{"a"}, "\x40\x00\x02\x80\x00\x00\x00\x01"},
		"a long key":                  {[]string{"0123456789ab"}, "\x00\x00\x00\x04\x08\x10\x20\x00"},
		"two keys":                    {[]string{"a", "b"}, "\xc0\x00\x02\x81\x04\x00\x00\x21"},
		"the other one ahead":         {[]string{"b", "a"}, "\xc0\x00\x02\x81\x04\x00\x00\x21"},
		"7 keys":                      {strings.Split("a b c d e f g", " "), "\xd8\x1f\x02\x83\xcf\x0f\x00\x61"},
		"8 keys":                      {strings.Split("a b c d e f g h", " "), "\xd9\x3f\x02\xc3\xcf\x8f\x00\x61"},
		"9 keys: a byte more":         {strings.Split("a b c d e f g h i", " "), "\x63\x18\xc6\xcc\x0f\xc0\x7f\x83\x03"},
		"11 keys":                     {numbered(11), "\x00\x80\x61\x66\x66\x00\xff\xd3\xff\x04\x02"},
		"one key 9 times":             {slices.Repeat([]string{"a"}, 9), "\x01\x00\x80\x00\x00\x40\x02\x00\x00"},
		"sums past 32 bits, 72 bits":  {slices.Repeat([]string{strings.Repeat("\xff", 13)}, 9), "\x00\x01\x08\x40\x00\x02\x00\x00\x00"},
		"a long key 11 times, 88 bit": {slices.Repeat([]string{"0123456789ab"}, 11), "\x00\x00\x00\x00\x00\x04\x08\x10\x20\x00\x00"},
	} {
		if got := Make(c.keys); got != c.want {
			t.Errorf("%s: %q, not %q", name, got, c.want)
		}
	}
	for n := range 80 {
		if got, want := Make(numbered(n)), makeOf(numbered(n)); got != want {
			t.Errorf("%d keys: %q, not %q", n, got, want)
		}
	}
	for _, key := range keyTexts() {
		for _, n := range []int{1, 8, 9, 10, 11, 13, 100} {
			keys := slices.Repeat([]string{key}, n)
			if got, want := Make(keys), makeOf(keys); got != want {
				t.Errorf("%.40q %d times: %q, not %q", key, n, got, want)
			}
		}
	}
	if got, want := Make(keyTexts()), makeOf(keyTexts()); got != want {
		t.Errorf("keys of many kinds: %q, not %q", got, want)
	}
}

func TestMakeSize(t *testing.T) { // P7.1: a byte of each key, 8 at least
	for n, want := range map[int]int{0: 8, 1: 8, 7: 8, 8: 8, 9: 9, 10: 10, 16: 16, 63: 63, 300: 300, 1 << 16: 1 << 16, 1<<16 + 1: 1<<16 + 1} {
		if got := len(Make(numbered(n))); got != want {
			t.Errorf("%d keys: %d bytes", n, got)
		}
		if got := len(Make(make([]string, n))); got != want {
			t.Errorf("%d keys of no byte: %d bytes", n, got)
		}
	}
}

func TestMakeChangesNothing(t *testing.T) { // what is handed in stays, the room behind it too
	room := []string{"b", "a", "b", "c", "d"}
	was := slices.Clone(room)
	first := Make(room[:3])
	if second := Make(room[:3]); first != second {
		t.Errorf("%q, then %q", first, second)
	}
	if !slices.Equal(room, was) {
		t.Errorf("%q, not %q any more", room, was)
	}
	room[0] = "z"
	if first != makeOf(was[:3]) {
		t.Errorf("%q, with a key changed behind it", first)
	}
}

func TestMay(t *testing.T) { // P7.2
	ones := func(n int) string { return strings.Repeat("\xff", n) }
	zeros := func(n int) string { return strings.Repeat("\x00", n) }
	for name, c := range map[string]struct {
		s, key string
		want   bool
	}{
		"no bytes":                       {"", "a", true},
		"no bytes, no key":               {"", "", true},
		"no bytes, a large key":          {"", strings.Repeat("k", 1<<20), true},
		"a byte, all bits":               {"\xff", "a", true},
		"a byte, no bit":                 {"\x00", "a", false},
		"three bytes, all bits":          {ones(3), "zz", true},
		"nothing was put":                {Make(nil), "a", false},
		"nothing was put, no key":        {Make(nil), "", false},
		"no bit of many":                 {zeros(300), "a", false},
		"all bits of many":               {ones(300), "a", true},
		"its bits alone":                 {"\x40\x00\x02\x80\x00\x00\x00\x01", "a", true},
		"its bits, of another size":      {"\x40\x00\x02\x80\x00\x00\x00\x01\x00", "a", false},
		"its bits of 9 bytes":            {"\x01\x00\x80\x00\x00\x40\x02\x00\x00", "a", true},
		"its bits, by words turned":      {"\x01\x00\x00\x00\x80\x02\x00\x40", "a", false},
		"the first bit lacks":            {"\x00\x00\x02\x80\x00\x00\x00\x01", "a", false},
		"the second bit lacks":           {"\x40\x00\x02\x00\x00\x00\x00\x01", "a", false},
		"the third bit lacks":            {"\x40\x00\x02\x80\x00\x00\x00\x00", "a", false},
		"the fourth bit lacks":           {"\x40\x00\x00\x80\x00\x00\x00\x01", "a", false},
		"all but the first bit":          {"\xbf" + ones(7), "a", false},
		"all but the last bit":           {ones(2) + "\xfd" + ones(5), "a", false},
		"sums past 32 bits, 72 bits":     {"\x00\x01\x08\x40\x00\x02\x00\x00\x00", strings.Repeat("\xff", 13), true},
		"the same, a bit lacks":          {"\x00\x01\x08\x40\x00\x00\x00\x00\x00", strings.Repeat("\xff", 13), false},
		"a large key, which wasn't put":  {Make([]string{"a"}), strings.Repeat("k", 1<<20), false},
		"two were put, the first":        {"\xc0\x00\x02\x81\x04\x00\x00\x21", "a", true},
		"two were put, the second":       {"\xc0\x00\x02\x81\x04\x00\x00\x21", "b", true},
		"two were put, a third one":      {"\xc0\x00\x02\x81\x04\x00\x00\x21", "c", false},
		"two were put, a key of no byte": {"\xc0\x00\x02\x81\x04\x00\x00\x21", "", false},
	} {
		if got := May(c.s, c.key); got != c.want {
			t.Errorf("%s: %v", name, got)
		}
	}
}

func TestMayOfAnyBytes(t *testing.T) { // P7.2: no sieve that Make tells is asked for
	for size := range 40 {
		for from := range 12 {
			s := mixed(size, from)
			for _, key := range keyTexts() {
				holdMay(t, s, key)
			}
		}
	}
	for one := range 256 {
		for _, key := range keyTexts() {
			holdMay(t, string([]byte{byte(one)}), key)
			holdMay(t, string([]byte{byte(one), 0x5a}), key)
		}
	}
}

func TestMayNeedsAllFourBits(t *testing.T) { // P7.2: these alone are enough, and each one is needed
	for _, size := range []int{1, 2, 3, 7, 8, 9, 11, 24, 300} {
		for _, key := range keyTexts() {
			bits := make([]bool, 8*size)
			for _, place := range placesOf(key, len(bits)) {
				bits[place] = true
			}
			if !May(packed(bits), key) {
				t.Errorf("%.40q, its bits of %d bytes: false", key, size)
			}
			for _, place := range placesOf(key, len(bits)) {
				bits[place] = false
				if May(packed(bits), key) {
					t.Errorf("%.40q, its bits of %d bytes but %d: true", key, size, place)
				}
				bits[place] = true
			}
			full := slices.Repeat([]bool{true}, len(bits))
			full[placesOf(key, len(bits))[3]] = false
			if May(packed(full), key) {
				t.Errorf("%.40q, all bits of %d bytes but one: true", key, size)
			}
		}
	}
}

func TestWhatWasPutMayBeThere(t *testing.T) { // P7.3
	rows := [][]string{{""}, {"a"}, keyTexts(), slices.Repeat([]string{"a", "b"}, 50), slices.Repeat([]string{""}, 9)}
	for n := range 70 {
		rows = append(rows, numbered(n))
	}
	for _, keys := range append(rows, numbered(300), numbered(1<<16+1)) {
		s := Make(keys)
		for _, key := range keys {
			if !May(s, key) {
				t.Errorf("%.40q, one of %d: false", key, len(keys))
			}
		}
	}
}

func TestWhatWasNotPut(t *testing.T) { // P7.1, P7.2: it is surely not there, but where others made its four bits 1
	for _, n := range []int{0, 1, 8, 9, 100} {
		s := Make(numbered(n))
		absent := 0
		for i := range 500 {
			key := "other" + strconv.Itoa(i)
			holdMay(t, s, key)
			if !May(s, key) {
				absent++
			}
		}
		if absent < 400 {
			t.Errorf("%d keys were put: of 500 others %d are surely not there", n, absent)
		}
	}
}
