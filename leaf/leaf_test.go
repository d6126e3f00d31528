package leaf

import (
	"bytes"
	"math"
	"math/rand"
	"slices"
	"strings"
	"testing"

	"rowlock/api"
	"rowlock/disk"
)

func at(key string, page uint32, slot uint16) api.Entry {
	return api.Entry{Key: key, Rid: api.Rid{Page: page, Slot: slot}}
}

func TestCompare(t *testing.T) { // P10.1
	l := []api.Entry{at("", 0, 0), at("", 0, 1), at("", 1, 0), at("\x00", 0, 0), at("a", 0, 65535), at("a", 256, 0), at("a", math.MaxUint32, 3), at("ab", 0, 0), at("b", 0, 0), at("\xff", 0, 0)}
	for i, a := range l {
		for k, b := range l {
			want := 0
			if i < k {
				want = -1
			} else if i > k {
				want = 1
			}
			if got := Compare(a, b); got != want {
				t.Error(a, b, got)
			}
		}
		if want := i + 1; Child(l, a) != want {
			t.Error("a separator leads to its own entry", i, Child(l, a))
		}
	}
	if !Rise(l) || !Rise(nil) || !Rise(l[:1]) || Rise([]api.Entry{l[1], l[0]}) || Rise([]api.Entry{l[0], l[1], l[1]}) {
		t.Error("rise")
	}
	if Child(nil, l[0]) != 0 || Child(l[4:], l[3]) != 0 || Child(l[:4], l[8]) != 4 || Child(l[6:8], at("aa", 0, 0)) != 1 {
		t.Error("child")
	}
}

func TestBytes(t *testing.T) { // P10.1
	l := []api.Entry{at("abc", 0x01020304, 0x0506), at("b", 9, 0)}
	if LeafSize(nil) != 8 || LeafSize(l[:1]) != 19 || LeafSize(l) != 28 || InnerSize(nil) != 12 || InnerSize(l) != 40 {
		t.Error(LeafSize(l), InnerSize(l))
	}
	b, e := PutLeaf(0x0a0b0c0d, l)
	want := append([]byte{2, 0, 0, 2, 10, 11, 12, 13, 0, 3, 'a', 'b', 'c', 1, 2, 3, 4, 5, 6, 0, 1, 'b', 0, 0, 0, 9, 0, 0}, make([]byte, 484)...)
	if e != api.OK || !bytes.Equal(b, want) {
		t.Error(e, b[:40])
	}
	b, e = PutInner([]uint32{7, 0x01020304, 8}, l)
	want = append([]byte{3, 0, 0, 2, 0, 0, 0, 0, 0, 0, 0, 7, 0, 3, 'a', 'b', 'c', 1, 2, 3, 4, 5, 6, 1, 2, 3, 4, 0, 1, 'b', 0, 0, 0, 9, 0, 0, 0, 0, 0, 8}, make([]byte, 472)...)
	if e != api.OK || !bytes.Equal(b, want) {
		t.Error(e, b[:44])
	}
}

// long are entries of keys of these lengths, rising.
func long(sizes ...int) []api.Entry {
	var l []api.Entry
	for i, n := range sizes {
		l = append(l, at(string([]byte{byte('a' + i)})+strings.Repeat("x", n-1), uint32(i), 0))
	}
	return l
}

func TestPutRefuses(t *testing.T) { // P10.1
	for _, x := range []struct {
		l    []api.Entry
		want api.Errno
	}{{nil, api.OK}, {long(200, 200, 80), api.OK}, {long(200, 200, 81), api.ErrFull}, {long(201), api.ErrArg}, {long(200, 200, 201), api.ErrArg}, {[]api.Entry{at("a", 1, 1), at("a", 1, 1)}, api.ErrArg}, {[]api.Entry{at("a", 1, 2), at("a", 1, 1)}, api.ErrArg}} {
		b, e := PutLeaf(1, x.l)
		if e != x.want || (e == api.OK) != (len(b) == 512) || e != api.OK && b != nil {
			t.Error(len(x.l), e)
		}
	}
	for _, x := range []struct {
		children int
		l        []api.Entry
		want     api.Errno
	}{{1, nil, api.ErrArg}, {0, nil, api.ErrArg}, {1, long(1), api.ErrArg}, {3, long(1), api.ErrArg}, {2, long(1), api.OK}, {4, long(200, 200, 64), api.OK}, {4, long(200, 200, 65), api.ErrFull}, {2, long(201), api.ErrArg}, {3, []api.Entry{at("b", 0, 0), at("a", 0, 0)}, api.ErrArg}, {3, long(200, 200, 65), api.ErrArg}} {
		b, e := PutInner(make([]uint32, x.children), x.l)
		if e != x.want || (e == api.OK) != (len(b) == 512) || e != api.OK && b != nil {
			t.Error(x.children, len(x.l), e)
		}
	}
}

func TestThereAndBack(t *testing.T) { // P10.2
	r := rand.New(rand.NewSource(10))
	for range 300 {
		var l []api.Entry
		for range r.Intn(20) {
			key := make([]byte, r.Intn(30))
			r.Read(key)
			l = append(l, at(string(key), r.Uint32(), uint16(r.Uint32())))
		}
		slices.SortFunc(l, Compare)
		next := r.Uint32()
		if b, e := PutLeaf(next, l); e == api.OK {
			n, got, e := GetLeaf(b)
			if n != next || e != api.OK || !slices.Equal(got, l) {
				t.Error("leaf", n, e)
			}
			if _, _, e := GetInner(b); e != api.ErrForm {
				t.Error("a leaf is no inner page")
			}
		}
		var children []uint32
		for range len(l) + 1 {
			children = append(children, r.Uint32())
		}
		if b, e := PutInner(children, l); e == api.OK {
			c, got, e := GetInner(b)
			if e != api.OK || !slices.Equal(c, children) || !slices.Equal(got, l) {
				t.Error("inner", e)
			}
			if _, _, e := GetLeaf(b); e != api.ErrForm {
				t.Error("an inner page is no leaf")
			}
		}
	}
}

// TestFullPages: a page that is used up to its last byte is read, too.
func TestFullPages(t *testing.T) { // P10.2
	l := long(200, 200, 80)
	b, _ := PutLeaf(0, l)
	if _, got, e := GetLeaf(b); e != api.OK || !slices.Equal(got, l) {
		t.Error("leaf", e)
	}
	l = long(200, 200, 64)
	b, _ = PutInner([]uint32{1, 2, 3, 1<<32 - 1}, l)
	if c, got, e := GetInner(b); e != api.OK || !slices.Equal(got, l) || c[3] != 1<<32-1 {
		t.Error("inner", e)
	}
}

func TestAnyBytes(t *testing.T) { // P10.1, P10.2
	leafPage, _ := PutLeaf(3, long(4, 2))
	inner, _ := PutInner([]uint32{1, 2, 3}, long(4, 2))
	for _, page := range [][]byte{leafPage, inner} {
		for i := range page {
			for _, x := range []byte{0, 1, 2, 3, 199, 200, 201, 255} {
				b := slices.Clone(page)
				b[i] = x
				if next, l, e := GetLeaf(b); e == api.OK {
					if again, e := PutLeaf(next, l); e != api.OK || !bytes.Equal(again, b) {
						t.Error("leaf", i, x)
					}
				} else if e != api.ErrForm || l != nil || next != 0 {
					t.Error("leaf", i, x, e)
				}
				if c, l, e := GetInner(b); e == api.OK {
					if again, e := PutInner(c, l); e != api.OK || !bytes.Equal(again, b) {
						t.Error("inner", i, x)
					}
				} else if e != api.ErrForm || l != nil || c != nil {
					t.Error("inner", i, x, e)
				}
			}
		}
	}
	big := append(append([]byte{2, 0, 0, 1, 0, 0, 0, 0, 0, 201}, make([]byte, 502)...), 0)[:512]
	full := disk.Put(api.Head{Kind: api.LeafPage, Count: 65535})
	for i, b := range [][]byte{nil, leafPage[:511], append(slices.Clone(leafPage), 0), big, full, disk.Put(api.Head{Kind: api.NodePage}), disk.Put(api.Head{Kind: api.HeapPage})} {
		_, _, e := GetLeaf(b)
		_, _, f := GetInner(b)
		if e != api.ErrForm || f != api.ErrForm {
			t.Error(i, e, f)
		}
	}
	if next, l, e := GetLeaf(disk.Put(api.Head{Kind: api.LeafPage, Next: 5})); next != 5 || len(l) != 0 || e != api.OK {
		t.Error("a leaf of no entries")
	}
}
