package deal

import (
	"fmt"
	"strings"
	"testing"

	"ravelin/api"
)

func TestKey(t *testing.T) { // P17.1: a byte, and not a rune
	for space := range 256 {
		for _, key := range []string{"", "k", "\x00", "\xff", strings.Repeat("k", 12), strings.Repeat("k", 20)} {
			got := Key(byte(space), key)
			if len(got) != len(key)+1 || got[0] != byte(space) || got[1:] != key {
				t.Errorf("P17.1: Key(%d, %q): %q", space, key, got)
			}
		}
	}
}

func TestOpen(t *testing.T) { // P17.1: what it sees is what was there, however much is done since
	b := lay(t)
	b.table(put("ak", "1"), put("bk", "1"))
	b.do(put("al", "2"))
	d := b.deal('b')
	for _, l := range [][]api.Write{{put("ak", "9"), del("al"), put("am", "9")}, {del("bk"), put("bl", "9")}} {
		b.table(l...)
		b.table(put("ck", "9"))
		if err := b.e.Merge(); err != api.OK {
			t.Fatal(err)
		}
		for _, key := range []string{"k", "l", "m"} {
			d.get('a', key)
			d.get('b', key)
			d.get('c', key)
		}
		d.scan('a', "", "")
		d.scan('b', "", "")
	}
}

func TestForm(t *testing.T) { // P17.1
	b := lay(t)
	long, longer := strings.Repeat("k", 12), strings.Repeat("k", 13)
	b.do(put("a"+long, strings.Repeat("v", 24)), put("a\x00", ""), put("a", "bare"))
	d := b.deal('a')
	for _, key := range []string{"", longer, strings.Repeat("k", 99), long, "\x00", "\xff", strings.Repeat("\xff", 12)} {
		d.get('a', key)
		d.get('b', key)
		for _, value := range []string{"", strings.Repeat("v", 24), strings.Repeat("v", 25), strings.Repeat("v", 99)} {
			d.write(put(key, value))
		}
		d.write(del(key))
		d.get('a', key)
	}
	d.commit()
}

func TestLarge(t *testing.T) { // P17.1: keys are counted, not writes, and not those of Reads
	b := lay(t)
	d := b.deal('h')
	for i := range 8 {
		d.write(put(fmt.Sprint("k", 7-i), "1"))
		d.write(del(fmt.Sprint("k", 7-i)))
		d.write(put(fmt.Sprint("k", 7-i), "2"))
		d.get('h', "other")
	}
	d.write(put("k8", ""))
	d.write(del("k8"))
	d.write(put("k8", strings.Repeat("v", 25))) // ErrForm ahead of ErrLarge
	d.write(del(""))
	d.write(del("k3"))
	d.write(put("k8", ""))
	d.write(put("k3", "3"))
	d.commit()
}

func TestWrites(t *testing.T) { // P17.1: of one key the last one, and it alone is seen, of home alone
	b := lay(t)
	b.do(put("ak", "a"), put("bk", "b"), put("ck", "c"))
	d := b.deal('b')
	for _, w := range []api.Write{put("k", "1"), put("j", "1"), del("k"), put("l", ""), put("k", "2"), del("j"), del("l"), del("none"), put("\x00", "0"), put("\xff", "f")} {
		d.write(w)
		for _, space := range []byte{'a', 'b', 'c', 0, 255} {
			for _, key := range []string{"j", "k", "l", "none", "\x00", "\xff"} {
				d.get(space, key)
			}
			d.scan(space, "", "")
		}
	}
	other := b.deal('b')
	for _, key := range []string{"j", "k", "l"} { // nobody else sees it
		other.get('b', key)
	}
	d.commit()
	for _, key := range []string{"j", "k", "l"} { // who was there already doesn't either
		other.get('b', key)
	}
	other.commit()
}

func TestScan(t *testing.T) { // P17.1: at all ends, in all spaces, with and without Writes
	b := lay(t)
	ends := []string{"", "\x00", "a", "a\x00", "b", "c", "z", "\xff", "\xff\xff", strings.Repeat("\xff", 12), strings.Repeat("b", 20)}
	spaces := []byte{0, 1, 'a', 'b', 254, 255}
	for _, space := range spaces {
		s := string([]byte{space})
		b.do(put(s, "bare"), put(s+"\x00", "0"), put(s+"a", "1"), put(s+"b", ""), put(s+"b\x00", "2"))
		b.do(put(s+"\xff", "f"), put(s+strings.Repeat("\xff", 12), "last"), put(s+"c", "3"))
		b.do(del(s + "c"))
	}
	for _, home := range spaces {
		d := b.deal(home)
		for _, w := range []api.Write{{}, put("\x00\x00", "own"), del("a"), put("c", "own"), put(strings.Repeat("\xff", 12), ""), del("\xff"), put("b", "own"), del("b")} {
			d.write(w)
			for _, from := range ends {
				for _, to := range ends {
					d.scan(home, from, to)
				}
			}
			d.reads, d.d.reads = nil, nil // they would be asked again and again
		}
		for _, space := range spaces {
			d.scan(space, "", "")
		}
	}
}

func TestScanOfMany(t *testing.T) { // P17.1: the first MaxScan of the snap, and of that with Writes upon it
	for _, many := range []int{62, 63, 64, 65, 70} {
		b := lay(t)
		b.do(put("a", "bare")) // which takes nobody's place
		for i := range many {
			b.do(put(fmt.Sprintf("ak%03d", 2*i), "v"))
		}
		for _, l := range [][]api.Write{
			{},
			{del("k000")},
			{put("k001", "own")},
			{put("k001", "own"), put("k003", "own"), put("k999", "own")},
			{put("k999", "own")},
			{del("k126")}, // the 64th
			{del("k128")}, // the 65th
			{put("k127", "own")},
			{put("k128", "own")},
			{put("k130", "own"), del("k000")},
			{put("k130", "own"), del("k000"), del("k002"), del("k004")},
			{put("k001", ""), put("k003", ""), put("k005", ""), put("k007", ""), put("k009", ""), put("k011", ""), put("k013", ""), put("k015", "")},
			{del("k000"), del("k002"), del("k004"), del("k006"), del("k008"), del("k010"), del("k012"), del("k014")},
		} {
			d := b.deal('a')
			for _, w := range l {
				d.write(w)
			}
			for _, from := range []string{"", "k000", "k001", "k002", "k020"} {
				for _, to := range []string{"", "k010", "k127", "k128", "k129"} {
					d.scan('a', from, to)
				}
			}
			d.commit()
			for _, w := range d.batch() { // as it was
				if w.Key[2:] < fmt.Sprintf("%03d", 2*many) && (w.Key[4]-'0')%2 == 0 {
					b.do(put(w.Key, "v"))
				} else {
					b.do(del(w.Key))
				}
			}
		}
	}
}

func TestReads(t *testing.T) { // P17.2: which ones, what of them, in order
	b := lay(t)
	b.do(put("ak", "low"), put("bk", "high"), put("bl", ""), put("\xffk", "last"))
	d := Open(b.e, 'b')
	if len(d.Reads()) != 0 || len(d.Writes()) != 0 {
		t.Errorf("P17.2: %v, %v", d.Reads(), d.Writes())
	}
	var want []api.Read
	read := func(r api.Read) {
		t.Helper()
		want = append(want, r)
		if got := d.Reads(); !same(got, want) {
			t.Errorf("P17.2: %v, not %v", got, want)
		}
	}
	d.Get('a', "k")
	read(api.Read{Level: 'a', From: "k", Pairs: []api.Pair{{Key: "k", Value: "low"}}})
	d.Get('b', "") // ErrForm
	d.Get('a', "none")
	read(api.Read{Level: 'a', From: "none"})
	d.Get('b', "l")
	read(api.Read{Level: 'b', From: "l", Pairs: []api.Pair{{Key: "l"}}})
	d.Put("k", "own")
	d.Delete("m")
	d.Get('b', "k") // what Writes tell
	d.Get('b', "m")
	d.Get('a', "m")
	read(api.Read{Level: 'a', From: "m"})
	d.Scan('b', "", "")
	read(api.Read{Level: 'b', Scan: true, Pairs: []api.Pair{{Key: "k", Value: "high"}, {Key: "l"}}})
	d.Get('a', "k") // once more
	read(api.Read{Level: 'a', From: "k", Pairs: []api.Pair{{Key: "k", Value: "low"}}})
	d.Scan('b', "k", "l")
	read(api.Read{Level: 'b', Scan: true, From: "k", To: "l", Pairs: []api.Pair{{Key: "k", Value: "high"}}})
	d.Scan(255, "z", "a")
	read(api.Read{Level: 255, Scan: true, From: "z", To: "a"})
	d.Scan(255, "", strings.Repeat("z", 20))
	read(api.Read{Level: 255, Scan: true, To: strings.Repeat("z", 20), Pairs: []api.Pair{{Key: "k", Value: "last"}}})
}

func TestOwnMemory(t *testing.T) { // what is answered is new, its spare room too
	b := lay(t)
	b.do(put("ak", "1"), put("al", "2"), put("bk", "3"))
	w := b.deal('b')
	w.get('a', "k")
	w.get('b', "l")
	w.write(put("k", "own"))
	w.write(put("m", "own"))
	for _, space := range []byte{'a', 'b', 'a', 'b'} {
		w.scan(space, "", "")
		w.reads = append(w.reads, w.reads[len(w.reads)-1])
		l, err := w.d.Scan(space, "", "")
		if len(l) != 2 || err != api.OK {
			t.Errorf("P17.1: %v, %v", l, err)
		}
		clear(l[:cap(l)])
		w.scan(space, "", "")
	}
	w.shares()
	w.abort()
	w.shares()
}

// shares holds that what is done with Reads and Writes touches nothing.
func (w *twin) shares() {
	w.b.t.Helper()
	w.check()
	reads, other, writes := w.d.Reads(), w.d.Reads(), w.d.Writes()
	for i := range reads { // no two lists of one answer share any either
		pairs := reads[i].Pairs
		clear(pairs[:cap(pairs)])
		reads[i].Pairs = w.reads[i].Pairs
		if !same(reads, w.reads) {
			w.b.t.Errorf("P17.2: %v, not %v", reads, w.reads)
		}
	}
	clear(reads[:cap(reads)])
	clear(writes[:cap(writes)])
	if !same(other, w.reads) {
		w.b.t.Errorf("P17.2: %v, not %v", other, w.reads)
	}
	w.check()
}

func TestSpoilt(t *testing.T) { // P17.1, P17.2: a look that errs isn't among Reads
	d := Open(crafted(t), 'a')
	for range 2 {
		if v, ok, err := d.Get('a', "k"); v != "" || ok || err != api.ErrSpoilt {
			t.Errorf("P17.1: %q, %v, %v", v, ok, err)
		}
		for _, from := range []string{"", "k"} {
			if l, err := d.Scan('a', from, ""); len(l) != 0 || err != api.ErrSpoilt {
				t.Errorf("P17.1: %q, %v", l, err)
			}
		}
		d.Put("j", "own")
		if l, err := d.Scan('a', "", ""); len(l) != 0 || err != api.ErrSpoilt {
			t.Errorf("P17.1: with Writes: %q, %v", l, err)
		}
		if v, ok, err := d.Get('a', "\xff"); v != "" || ok || err != api.OK {
			t.Errorf("P17.1: %q, %v, %v", v, ok, err)
		}
		if l, err := d.Scan('a', "", "b"); fmt.Sprint(l) != "[{a 1}]" || err != api.OK {
			t.Errorf("P17.1: %v, %v", l, err)
		}
		if v, ok, err := d.Get('a', ""); v != "" || ok || err != api.ErrForm {
			t.Errorf("P17.1: %q, %v, %v", v, ok, err)
		}
	}
	get := api.Read{Level: 'a', From: "\xff"}
	scan := api.Read{Level: 'a', Scan: true, To: "b", Pairs: []api.Pair{{Key: "a", Value: "1"}}}
	if got := d.Reads(); !same(got, []api.Read{get, scan, get, scan}) {
		t.Errorf("P17.2: %v", got)
	}
	d.Put("k", "own") // what Writes tell isn't looked for
	if v, ok, err := d.Get('a', "k"); v != "own" || !ok || err != api.OK {
		t.Errorf("P17.1: %q, %v, %v", v, ok, err)
	}
	if err := d.Ready(); err != api.OK {
		t.Errorf("P17.3: %v", err)
	}
}

func TestExample(t *testing.T) { // Put, Get: what was put
	d := lay(t).deal('a')
	d.d.Put("k", "v")
	if v, ok, err := d.d.Get('a', "k"); v != "v" || !ok || err != api.OK {
		t.Errorf("%q, %v, %v", v, ok, err)
	}
}
