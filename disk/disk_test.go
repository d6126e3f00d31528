package disk

import (
	"bytes"
	"math"
	"testing"

	"rowlock/api"
)

// full is a page of bytes b alone.
func full(b byte) []byte { return bytes.Repeat([]byte{b}, api.PageSize) }

func TestNew(t *testing.T) { // P6.1
	for _, n := range []int{math.MinInt, -1, 0, 4097, math.MaxInt} {
		if d, e := New(n); d != nil || e != api.ErrArg {
			t.Error(n, e)
		}
	}
	for _, n := range []int{1, 2, 4096} {
		d, e := New(n)
		if e != api.OK || d.Len() != n || d.Left() != n-1 || !bytes.Equal(d.Image(), make([]byte, n*512)) {
			t.Error(n, e)
		}
	}
}

func TestTake(t *testing.T) { // P6.1
	d, _ := New(3)
	for _, want := range []uint32{1, 2} {
		if p, e := d.Take(); p != want || e != api.OK {
			t.Error(p, e)
		}
	}
	if p, e := d.Take(); p != 0 || e != api.ErrFull || d.Left() != 0 {
		t.Error(p, e)
	}
	d, _ = New(4)
	d.Write(1, full(0))
	if p, _ := d.Take(); p != 2 || d.Left() != 1 {
		t.Error("a page that is written is taken: got", p)
	}
	if b, _ := d.Read(2); !bytes.Equal(b, full(0)) {
		t.Error("a taken page's bytes stay")
	}
	d, _ = Load(append(full(1), append(full(0), append([]byte{0, 9}, full(7)[2:]...)...)...))
	d.Take()
	if p, _ := d.Take(); p != 2 {
		t.Error(p)
	}
	if b, _ := d.Read(2); b[1] != 9 || b[511] != 7 {
		t.Error("a taken page's bytes stay")
	}
}

func TestReadWrite(t *testing.T) { // P6.1
	d, _ := New(3)
	in := full(7)
	if e := d.Write(2, in); e != api.OK {
		t.Fatal(e)
	}
	in[0] = 1
	out, e := d.Read(2)
	if e != api.OK || !bytes.Equal(out, full(7)) {
		t.Error("read", e)
	}
	out[5] = 0
	if again, _ := d.Read(2); !bytes.Equal(again, full(7)) {
		t.Error("what was read is the disk's own memory")
	}
	for _, p := range []uint32{0, 1} {
		if b, _ := d.Read(p); !bytes.Equal(b, full(0)) {
			t.Error("another page changed", p)
		}
	}
	for _, x := range []struct {
		page uint32
		size int
		want api.Errno
	}{{3, 512, api.ErrPage}, {3, 0, api.ErrPage}, {math.MaxUint32, 512, api.ErrPage}, {1, 511, api.ErrArg}, {1, 513, api.ErrArg}, {1, 0, api.ErrArg}} {
		if e := d.Write(x.page, make([]byte, x.size)); e != x.want {
			t.Error(x, e)
		}
	}
	if d.Left() != 1 {
		t.Error("a write that is refused takes a page")
	}
	if b, e := d.Read(3); b != nil || e != api.ErrPage {
		t.Error(e)
	}
}

func TestImages(t *testing.T) { // P6.1, P6.2
	for _, n := range []int{0, 1, 511, 513, 4097 * 512} {
		if d, e := Load(make([]byte, n)); d != nil || e != api.ErrArg {
			t.Error(n, e)
		}
	}
	image := append(full(0), append(full(4), append(full(0), full(1)...)...)...)
	d, e := Load(image)
	if e != api.OK || d.Len() != 4 || d.Left() != 1 {
		t.Fatal(e, d.Left())
	}
	if !bytes.Equal(d.Image(), image) {
		t.Error("image")
	}
	image[600] = 99
	d.Image()[700] = 98
	for i, want := range []byte{0, 4, 0, 1} {
		if b, _ := d.Read(uint32(i)); !bytes.Equal(b, full(want)) {
			t.Error(i)
		}
	}
	again, _ := Load(d.Image())
	if !bytes.Equal(again.Image(), d.Image()) {
		t.Error("there and back")
	}
}

func TestCopy(t *testing.T) { // P6.1
	d, _ := New(4)
	d.Take()
	c := d.Copy()
	if c.Left() != 2 || c.Len() != 4 {
		t.Error("what was taken is taken in the copy")
	}
	c.Write(1, full(3))
	d.Write(2, full(5))
	a, _ := d.Read(1)
	b, _ := c.Read(2)
	if !bytes.Equal(a, full(0)) || !bytes.Equal(b, full(0)) {
		t.Error("what is done to one changes the other")
	}
	if p, _ := c.Take(); p != 2 {
		t.Error(p)
	}
	if p, _ := d.Take(); p != 3 {
		t.Error(p)
	}
}

func TestNil(t *testing.T) { // P6.1
	var d *Disk
	b, e := d.Read(0)
	p, f := d.Take()
	if d.Len() != 0 || b != nil || e != api.ErrPage || d.Write(0, full(0)) != api.ErrPage || p != 0 || f != api.ErrFull || d.Left() != 0 || d.Image() != nil || d.Copy() != nil {
		t.Error("a nil disk")
	}
}

func TestHead(t *testing.T) { // P6.1
	b := Put(api.Head{Kind: 4, Count: 0x0102, Next: 0x03040506})
	if len(b) != 512 || !bytes.Equal(b[:8], []byte{4, 0, 1, 2, 3, 4, 5, 6}) || !bytes.Equal(b[8:], make([]byte, 504)) {
		t.Error(b)
	}
	for _, h := range []api.Head{{}, {Kind: 255, Count: 65535, Next: math.MaxUint32}, {Kind: 1, Count: 256, Next: 1 << 24}} {
		if got, ok := Get(Put(h)); got != h || !ok {
			t.Error(h, got)
		}
	}
	odd := Put(api.Head{Kind: 1})
	odd[1] = 1
	for _, b := range [][]byte{nil, odd, make([]byte, 511), make([]byte, 513), make([]byte, 8)} {
		if h, ok := Get(b); ok || h != (api.Head{}) {
			t.Error(len(b), h)
		}
	}
}
