package slots

import (
	"bytes"
	"math"
	"math/rand"
	"slices"
	"testing"

	"rowlock/api"
	"rowlock/disk"
)

// page is one of records of these sizes, each full of its own letter.
func page(t *testing.T, next uint32, sizes ...int) []byte {
	t.Helper()
	b := New(next)
	for i, n := range sizes {
		var slot int
		var e api.Errno
		b, slot, e = Add(b, bytes.Repeat([]byte{byte('a' + i)}, n))
		if e != api.OK || slot != i {
			t.Fatal(i, n, slot, e)
		}
	}
	return b
}

func TestNew(t *testing.T) { // P8.1
	b := New(0x01020304)
	if len(b) != 512 || !bytes.Equal(b[:8], []byte{1, 0, 0, 0, 1, 2, 3, 4}) || !bytes.Equal(b[8:], make([]byte, 504)) {
		t.Error(b[:8])
	}
	if !May(b) || Count(b) != 0 || Room(b) != 500 {
		t.Error(Count(b), Room(b))
	}
}

func TestBytes(t *testing.T) { // P8.1
	b := page(t, 5, 3, 2)
	want := make([]byte, 512)
	copy(want, []byte{1, 0, 0, 2, 0, 0, 0, 5, 1, 253, 0, 3, 1, 251, 0, 2})
	copy(want[507:], "bbaaa")
	if !bytes.Equal(b, want) {
		t.Errorf("%v ... %q", b[:20], b[500:])
	}
	if b := page(t, 0, 10); Room(b) != 486 || Count(b) != 1 {
		t.Error(Room(b))
	}
}

func TestRoom(t *testing.T) { // P8.1
	for _, x := range []struct {
		sizes []int
		room  int
	}{{[]int{500}, 0}, {[]int{499}, 0}, {[]int{496}, 0}, {[]int{495}, 1}, {[]int{250}, 246}, {[]int{250, 246}, 0}, {[]int{250, 241}, 1}} {
		b := page(t, 0, x.sizes...)
		if Room(b) != x.room || !May(b) {
			t.Error(x.sizes, Room(b))
		}
		if got, slot, e := Add(b, make([]byte, x.room+1)); got != nil || slot != 0 || e != api.ErrFull {
			t.Error(x.sizes, slot, e)
		}
		if x.room > 0 {
			if _, _, e := Add(b, make([]byte, x.room)); e != api.OK {
				t.Error(x.sizes, e)
			}
		}
	}
	if b, slot, e := Add(New(0), nil); b != nil || slot != 0 || e != api.ErrArg {
		t.Error("no byte", slot, e)
	}
	if _, _, e := Add(page(t, 0, 500), nil); e != api.ErrArg {
		t.Error("no byte, no room", e)
	}
	if _, _, e := Add(New(0), make([]byte, 501)); e != api.ErrFull {
		t.Error(e)
	}
}

func TestAdded(t *testing.T) { // P8.2
	r := rand.New(rand.NewSource(8))
	for range 200 {
		b := New(uint32(r.Intn(9)))
		next := slices.Clone(b[4:8])
		var had [][]byte
		for {
			rec := make([]byte, 1+r.Intn(120))
			r.Read(rec)
			before := slices.Clone(b)
			got, slot, e := Add(b, rec)
			if !bytes.Equal(b, before) {
				t.Fatal("the page that was handed in changed")
			}
			if e == api.ErrFull {
				break
			}
			had = append(had, slices.Clone(rec))
			rec[0]++
			b = got
			if slot != len(had)-1 || !May(b) || Count(b) != len(had) || !bytes.Equal(b[4:8], next) {
				t.Fatal(slot, e)
			}
			all, e := All(b)
			if e != api.OK || !slices.EqualFunc(all, had, bytes.Equal) {
				t.Fatal("all", e)
			}
			for i, want := range had {
				if got, e := Get(b, i); e != api.OK || !bytes.Equal(got, want) {
					t.Fatal("get", i, e)
				}
			}
		}
	}
}

func TestGet(t *testing.T) { // P8.1
	b := page(t, 0, 4, 5)
	for _, slot := range []int{2, -1, math.MaxInt, math.MinInt} {
		if r, e := Get(b, slot); r != nil || e != api.ErrNone {
			t.Error(slot, e)
		}
	}
	r, _ := Get(b, 0)
	r[0] = 'z'
	all, _ := All(b)
	all[1][0] = 'z'
	if again, _ := Get(b, 0); string(again) != "aaaa" {
		t.Error("a record is the page's memory")
	}
	if again, _ := Get(b, 1); string(again) != "bbbbb" {
		t.Error("records are the page's memory")
	}
}

func TestLink(t *testing.T) { // P8.1
	b := page(t, 9, 100, 30)
	before := slices.Clone(b)
	got, e := Link(b, math.MaxUint32)
	if e != api.OK || !bytes.Equal(b, before) {
		t.Fatal(e)
	}
	copy(before[4:8], []byte{255, 255, 255, 255})
	if !bytes.Equal(got, before) {
		t.Error("more than Next changed")
	}
}

func TestMayNot(t *testing.T) { // P8.1
	ok := page(t, 0, 3, 2)
	with := func(at int, x byte) []byte {
		b := slices.Clone(ok)
		b[at] = x
		return b
	}
	full := page(t, 0, 496) // slots up to byte 12, the record from byte 16
	edge := slices.Clone(full)
	edge[12] = 1
	none := disk.Put(api.Head{Kind: api.HeapPage, Count: 126})
	over := disk.Put(api.Head{Kind: api.HeapPage, Count: 65535})
	empty := disk.Put(api.Head{Kind: api.HeapPage, Count: 1})
	copy(empty[8:], []byte{2, 0, 0, 0})
	cross := disk.Put(api.Head{Kind: api.HeapPage, Count: 1})
	copy(cross[8:], []byte{0, 11, 1, 245}) // from byte 11 on: into its own slot
	for i, b := range [][]byte{nil, ok[:511], append(slices.Clone(ok), 0), with(0, 2), with(0, 0), with(1, 1), with(2, 1), with(3, 1), with(3, 3), with(9, 252), with(11, 4), with(11, 2), with(13, 250), with(15, 3), with(16, 1), with(506, 1), with(300, 7), edge, none, over, empty, cross} {
		if May(b) || Count(b) != 0 || Room(b) != 0 {
			t.Error("may not be:", i)
		}
		added, slot, e := Add(b, nil)
		one, f := Get(b, -1)
		all, g := All(b)
		linked, h := Link(b, 1)
		if added != nil || slot != 0 || one != nil || all != nil || linked != nil {
			t.Error("something beside an error", i)
		}
		if e != api.ErrForm || f != api.ErrForm || g != api.ErrForm || h != api.ErrForm {
			t.Error(i, e, f, g, h)
		}
	}
	if !May(with(4, 7)) || !May(with(511, 'z')) {
		t.Error("Next and the records' bytes are free")
	}
}
