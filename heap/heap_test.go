package heap

import (
	"bytes"
	"math"
	"math/rand"
	"slices"
	"testing"

	"rowlock/api"
	"rowlock/disk"
	"rowlock/pool"
	"rowlock/slots"
)

// records are such of these sizes, each one's first byte its number.
func records(sizes ...int) [][]byte {
	var l [][]byte
	for i, n := range sizes {
		b := make([]byte, n)
		if n > 0 {
			b[0] = byte(i)
		}
		l = append(l, b)
	}
	return l
}

// over is a new disk of so many pages, and a pool over it.
func over(pages int) (*disk.Disk, *pool.Pool) {
	d, _ := disk.New(pages)
	p, _ := pool.New(d, 3)
	return d, p
}

func TestFill(t *testing.T) { // P9.1
	d, p := over(8)
	d.Write(2, disk.Put(api.Head{}))
	first, rids, e := Fill(d, records(250, 250, 246, 500, 1))
	want := []api.Rid{{Page: 1}, {Page: 3}, {Page: 3, Slot: 1}, {Page: 4}, {Page: 5}}
	if e != api.OK || first != 1 || !slices.Equal(rids, want) || d.Left() != 2 {
		t.Error(first, rids, e)
	}
	if _, n, e := Scan(p, first); n != 4 || e != api.OK {
		t.Error(n, e)
	}
	first, rids, e = Fill(d, nil)
	if first != 6 || len(rids) != 0 || e != api.OK {
		t.Error("no records", first, rids, e)
	}
	if b, _ := d.Read(6); !bytes.Equal(b, slots.New(0)) {
		t.Error("no records: one page without any")
	}
}

func TestFillRefuses(t *testing.T) { // P9.1
	for _, l := range [][][]byte{{nil}, records(5, 0), records(501), records(3, 600, 2)} {
		d, _ := over(4)
		if first, rids, e := Fill(d, l); first != 0 || rids != nil || e != api.ErrArg || d.Left() != 3 {
			t.Error(len(l), e)
		}
		if _, _, e := Fill(nil, l); e != api.ErrArg {
			t.Error("of a nil disk, too", e)
		}
	}
	if first, rids, e := Fill(nil, nil); first != 0 || rids != nil || e != api.ErrFull {
		t.Error("a nil disk", e)
	}
	d, p := over(3)
	if first, rids, e := Fill(d, records(300, 300, 300, 300)); first != 0 || rids != nil || e != api.ErrFull || d.Left() != 0 {
		t.Error(e)
	}
	l, n, e := Scan(p, 1)
	if e != api.OK || n != 2 || len(l) != 2 || l[1].Record[0] != 1 || l[1].Rid != (api.Rid{Page: 2}) {
		t.Error("what was taken is written as far as it went", l, n, e)
	}
}

func TestFilled(t *testing.T) { // P9.2
	r := rand.New(rand.NewSource(9))
	for range 60 {
		d, p := over(60)
		var l [][]byte
		var sizes []int
		for range r.Intn(60) {
			b := make([]byte, 1+r.Intn(r.Intn(500)+1))
			r.Read(b)
			l = append(l, b)
			sizes = append(sizes, len(b))
		}
		left := d.Left()
		first, rids, e := Fill(d, l)
		if e != api.OK || left-d.Left() != Pages(sizes) {
			t.Fatal(e, left-d.Left(), Pages(sizes))
		}
		items, n, e := Scan(p, first)
		if e != api.OK || n != Pages(sizes) || len(items) != len(l) {
			t.Fatal(len(items), n, e)
		}
		for i, x := range items {
			if x.Rid != rids[i] || !bytes.Equal(x.Record, l[i]) {
				t.Fatal("scan", i, x.Rid)
			}
			if b, e := Fetch(p, rids[i]); e != api.OK || !bytes.Equal(b, l[i]) {
				t.Fatal("fetch", i, e)
			}
		}
	}
}

func TestFetch(t *testing.T) { // P9.1
	d, p := over(5)
	first, _, _ := Fill(d, records(3, 4))
	odd := slots.New(0)
	odd[300] = 1
	d.Write(3, odd)
	for _, x := range []struct {
		at   api.Rid
		want api.Errno
	}{{api.Rid{Page: first, Slot: 2}, api.ErrNone}, {api.Rid{Page: first, Slot: 65535}, api.ErrNone}, {api.Rid{Page: 0}, api.ErrForm}, {api.Rid{Page: 3}, api.ErrForm}, {api.Rid{Page: 5}, api.ErrPage}, {api.Rid{Page: math.MaxUint32}, api.ErrPage}} {
		if b, e := Fetch(p, x.at); b != nil || e != x.want {
			t.Error(x, e)
		}
	}
	if _, e := Fetch(nil, api.Rid{}); e != api.ErrArg {
		t.Error("a nil pool", e)
	}
}

func TestWalk(t *testing.T) { // P9.1
	d, p := over(6)
	first, rids, _ := Fill(d, records(300, 300, 100, 300))
	for stop := 1; stop <= 4; stop++ {
		var met []api.Rid
		n, e := Walk(p, first, func(at api.Rid, record []byte) bool {
			if int(record[0]) != len(met) {
				t.Error("order")
			}
			met = append(met, at)
			return len(met) < stop
		})
		if want := []int{0, 1, 2, 2, 3}[stop]; e != api.OK || n != want || !slices.Equal(met, rids[:stop]) {
			t.Error(stop, n, e, met)
		}
	}
	if n, e := Walk(p, first, nil); n != 3 || e != api.OK {
		t.Error("nobody to hand records to", n, e)
	}
}

func TestScanErrors(t *testing.T) { // P9.1
	d, p := over(4)
	if l, n, e := Scan(p, 4); l != nil || n != 0 || e != api.ErrPage {
		t.Error(n, e)
	}
	if _, _, e := Scan(p, 1); e != api.ErrForm {
		t.Error("no heap page", e)
	}
	page := func(next uint32) []byte { b, _, _ := slots.Add(slots.New(next), []byte{1}); return b }
	fresh := func() *pool.Pool { p, _ := pool.New(d, 2); return p }
	d.Write(1, page(2))
	d.Write(2, page(9))
	if l, n, e := Scan(fresh(), 1); l != nil || n != 0 || e != api.ErrPage {
		t.Error("a next page that isn't there", n, e)
	}
	d.Write(2, page(1))
	met := 0
	n, e := Walk(fresh(), 1, func(api.Rid, []byte) bool { met++; return true })
	if n != 0 || e != api.ErrForm || met != 4 {
		t.Error("round and round", n, e, met)
	}
	odd := page(0)
	odd[200] = 1
	d.Write(2, odd)
	if _, n, e := Scan(fresh(), 1); n != 0 || e != api.ErrForm {
		t.Error("a page that may not be", n, e)
	}
	for page, want := range map[uint32]api.Errno{1: api.ErrForm, 9: api.ErrPage} {
		if n, e := Walk(fresh(), page, nil); n != 0 || e != want {
			t.Error("a number of pages beside an error", n, e)
		}
	}
	d.Write(2, page(3))
	d.Write(3, page(0))
	d.Write(0, page(1))
	if l, n, e := Scan(fresh(), 0); len(l) != 4 || n != 4 || e != api.OK {
		t.Error("as many pages as the disk has", n, e)
	}
	d.Write(3, page(77))
	if _, n, e := Scan(fresh(), 0); n != 0 || e != api.ErrForm {
		t.Error("a page more than the disk has, wherever", n, e)
	}
	if _, _, e := Scan(nil, 1); e == api.OK {
		t.Error("a nil pool")
	}
}

func TestPages(t *testing.T) { // P9.1
	for _, x := range []struct {
		sizes []int
		want  int
	}{{nil, 1}, {[]int{250, 250, 250}, 3}, {[]int{250, 246}, 1}, {[]int{250, 247}, 2}, {[]int{500, 500}, 2}, {[]int{496, 1}, 2}, {[]int{495, 1}, 1}, {[]int{0}, 0}, {[]int{-5}, 0}, {[]int{501}, 0}, {[]int{5, 501}, 0}, {[]int{math.MaxInt, 1}, 0}, {[]int{math.MinInt}, 0}} {
		if got := Pages(x.sizes); got != x.want {
			t.Error(x.sizes, got)
		}
	}
}
