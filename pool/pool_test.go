package pool

import (
	"bytes"
	"math"
	"math/rand"
	"slices"
	"testing"

	"rowlock/api"
	"rowlock/disk"
)

// marked is a disk of so many pages, each of which begins with a kind of its own.
func marked(pages int) *disk.Disk {
	d, _ := disk.New(pages)
	for i := range pages {
		d.Write(uint32(i), disk.Put(api.Head{Kind: uint8(i), Count: uint16(i), Next: uint32(7 * i)}))
	}
	return d
}

func TestNew(t *testing.T) { // P7.1
	d := marked(2)
	for _, size := range []int{0, -1, math.MinInt} {
		if p, e := New(d, size); p != nil || e != api.ErrArg {
			t.Error(size, e)
		}
	}
	if p, e := New(nil, 3); p != nil || e != api.ErrArg {
		t.Error("a nil disk", e)
	}
	p, e := New(d, math.MaxInt)
	if e != api.OK || p.Reads() != 0 || p.Hits() != 0 || len(p.Kept()) != 0 || p.Pages() != 2 {
		t.Error("a new pool", e)
	}
}

func TestExample(t *testing.T) { // P7.1
	p, _ := New(marked(4), 2)
	for _, page := range []uint32{1, 2, 1, 3, 2} {
		if b, e := p.Get(page); e != api.OK || b[0] != byte(page) {
			t.Error(page, e)
		}
	}
	if p.Reads() != 4 || p.Hits() != 1 || !slices.Equal(p.Kept(), []uint32{3, 2}) {
		t.Error(p.Reads(), p.Hits(), p.Kept())
	}
	if b, e := p.Get(4); b != nil || e != api.ErrPage {
		t.Error("no such page", e)
	}
	if p.Reads() != 4 || p.Hits() != 1 || !slices.Equal(p.Kept(), []uint32{3, 2}) {
		t.Error("an error counts", p.Reads(), p.Hits(), p.Kept())
	}
	p.Reset()
	if p.Reads() != 0 || p.Hits() != 0 || len(p.Kept()) != 0 {
		t.Error("reset")
	}
	p.Get(2)
	p.Get(2)
	if p.Reads() != 1 || p.Hits() != 1 || !slices.Equal(p.Kept(), []uint32{2}) {
		t.Error("behind a reset", p.Reads(), p.Hits(), p.Kept())
	}
}

func TestHead(t *testing.T) { // P7.1
	d := marked(4)
	odd := disk.Put(api.Head{Kind: 3})
	odd[1] = 1
	d.Write(3, odd)
	p, _ := New(d, 9)
	h, b, e := p.Head(2, 2)
	if e != api.OK || h != (api.Head{Kind: 2, Count: 2, Next: 14}) || len(b) != 512 {
		t.Error(h, e)
	}
	for _, x := range []struct {
		page uint32
		kind uint8
		want api.Errno
	}{{2, 1, api.ErrForm}, {3, 3, api.ErrForm}, {4, 1, api.ErrPage}, {math.MaxUint32, 0, api.ErrPage}} {
		if h, b, e := p.Head(x.page, x.kind); e != x.want || b != nil || h != (api.Head{}) {
			t.Error(x, e)
		}
	}
	if p.Reads() != 2 || p.Hits() != 1 {
		t.Error("a page out of form was got, too", p.Reads(), p.Hits())
	}
}

func TestNil(t *testing.T) { // P7.1
	var p *Pool
	b, e := p.Get(0)
	h, c, f := p.Head(0, 0)
	p.Reset()
	if b != nil || e != api.ErrArg || h != (api.Head{}) || c != nil || f != api.ErrArg || p.Reads() != 0 || p.Hits() != 0 || p.Kept() != nil || p.Pages() != 0 {
		t.Error("a nil pool")
	}
}

func TestOwnMemory(t *testing.T) { // P7.1
	d := marked(3)
	p, _ := New(d, 2)
	b, _ := p.Get(1)
	b[0] = 99
	c, _ := p.Get(1)
	c[1] = 98
	if got, _ := p.Get(1); got[0] != 1 || got[1] != 0 {
		t.Error("what was got is the pool's own memory")
	}
	p.Kept()[0] = 7
	if !slices.Equal(p.Kept(), []uint32{1}) {
		t.Error("kept")
	}
	d.Write(1, disk.Put(api.Head{Kind: 50}))
	if got, _ := p.Get(1); got[0] != 1 {
		t.Error("a page that is kept is not read again")
	}
}

// model are the pages that are kept, told the plain way.
type model struct {
	kept        []uint32
	reads, hits uint64
}

func (m *model) get(page uint32, size int) {
	if i := slices.Index(m.kept, page); i >= 0 {
		m.hits++
		m.kept = append(slices.Delete(m.kept, i, i+1), page)
		return
	}
	m.reads++
	if len(m.kept) == size {
		m.kept = m.kept[1:]
	}
	m.kept = append(m.kept, page)
}

func TestSizes(t *testing.T) { // P7.1, P7.2
	d := marked(12)
	for seed := range int64(20) {
		var before uint64 = math.MaxUint64
		for size := 1; size < 14; size++ {
			r := rand.New(rand.NewSource(seed))
			p, _ := New(d, size)
			m := &model{}
			for range 200 {
				page := uint32(r.Intn(12))
				b, e := p.Get(page)
				if want, _ := d.Read(page); e != api.OK || !bytes.Equal(b, want) {
					t.Fatal("bytes", size, page, e)
				}
				m.get(page, size)
				if p.Reads() != m.reads || p.Hits() != m.hits || !slices.Equal(p.Kept(), m.kept) {
					t.Fatal("kept", size, p.Kept(), m.kept)
				}
			}
			if p.Reads() > before {
				t.Error("more reads in a greater pool", size)
			}
			before = p.Reads()
		}
	}
}
