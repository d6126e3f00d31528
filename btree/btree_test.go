package btree

import (
	"bytes"
	"math"
	"math/rand"
	"slices"
	"strings"
	"testing"

	"rowlock/api"
	"rowlock/disk"
	"rowlock/leaf"
	"rowlock/pool"
)

func at(key string, page uint32) api.Entry {
	return api.Entry{Key: key, Rid: api.Rid{Page: page}}
}

func fresh(pages int) *disk.Disk {
	d, _ := disk.New(pages)
	return d
}

func over(d *disk.Disk) *pool.Pool {
	p, _ := pool.New(d, 4)
	return p
}

// entries are so many, rising, of keys that are at most so long; some keys stand more than once.
func entries(r *rand.Rand, count, long int) []api.Entry {
	var l []api.Entry
	for range count {
		key := strings.Repeat(string([]byte{byte(r.Intn(4) * 80)}), r.Intn(long+1))
		if key != "" {
			key = string([]byte{byte(r.Intn(250))}) + key[1:]
		}
		l = append(l, api.Entry{Key: key, Rid: api.Rid{Page: uint32(r.Intn(300)), Slot: uint16(r.Intn(3))}})
	}
	slices.SortFunc(l, leaf.Compare)
	return slices.Compact(l)
}

// right fails, unless a tree is right, and has just these entries.
func right(t *testing.T, d *disk.Disk, root uint32, want []api.Entry) Shape {
	t.Helper()
	got, s, e := Check(over(d), root)
	if e != api.OK || !slices.Equal(got, want) || s.Entries != len(want) {
		t.Fatalf("%v: %d entries, not %d; %v", e, len(got), len(want), s)
	}
	return s
}

func TestBuild(t *testing.T) { // P11.1, P11.2
	r := rand.New(rand.NewSource(11))
	for i := range 120 {
		d := fresh(1500)
		l := entries(r, r.Intn(1+i*8), []int{3, 40, 200}[i%3])
		left := d.Left()
		root, e := Build(d, l)
		if e != api.OK {
			t.Fatal(e)
		}
		s := right(t, d, root, l)
		if s.Pages != left-d.Left() || s.Leaves > s.Pages || (s.Leaves == 1) != (s.High == 1) {
			t.Error(s, left-d.Left())
		}
	}
}

func TestBuildEdges(t *testing.T) { // P11.1
	d := fresh(3)
	root, e := Build(d, nil)
	if s := right(t, d, root, nil); e != api.OK || s != (Shape{0, 1, 1, 1}) {
		t.Error("no entries", s, e)
	}
	if b, _ := d.Read(root); !bytes.Equal(b, disk.Put(api.Head{Kind: api.LeafPage})) {
		t.Error("a tree of no entries is one leaf page")
	}
	for _, l := range [][]api.Entry{{at("b", 1), at("a", 1)}, {at("a", 1), at("a", 1)}, {at(strings.Repeat("a", 201), 1)}} {
		d := fresh(9)
		if root, e := Build(d, l); root != 0 || e != api.ErrArg {
			t.Error(len(l), e)
		}
		if root, e := Build(nil, l); root != 0 || e != api.ErrArg {
			t.Error("ahead of a nil disk", e)
		}
	}
	if root, e := Build(nil, nil); root != 0 || e != api.ErrFull {
		t.Error(e)
	}
	long := make([]api.Entry, 9) // at least 5 leaves, and a root
	for i := range long {
		long[i] = at(strings.Repeat("a", 200), uint32(i))
	}
	for pages := 1; pages <= 6; pages++ {
		if root, e := Build(fresh(pages), long); root != 0 || e != api.ErrFull {
			t.Error(pages, e)
		}
	}
	for n := range 40 {
		d := fresh(99)
		l := make([]api.Entry, n)
		for i := range l {
			l[i] = at(strings.Repeat("a", 200), uint32(i))
		}
		root, e := Build(d, l)
		if e != api.OK {
			t.Fatal(n, e)
		}
		right(t, d, root, l)
	}
}

func TestInsert(t *testing.T) { // P11.2
	r := rand.New(rand.NewSource(12))
	for i := range 30 {
		d := fresh(1500)
		all := entries(r, 250, []int{3, 60, 200}[i%3])
		order := r.Perm(len(all))
		var had []api.Entry
		for _, k := range order[:len(order)/3] {
			had = append(had, all[k])
		}
		slices.SortFunc(had, leaf.Compare)
		root, _ := Build(d, had)
		for _, k := range order[len(order)/3:] {
			var e api.Errno
			if root, e = Insert(d, root, all[k]); e != api.OK {
				t.Fatal(e)
			}
			place, _ := slices.BinarySearchFunc(had, all[k], leaf.Compare)
			had = slices.Insert(had, place, all[k])
			right(t, d, root, had)
		}
		image := d.Image()
		for _, x := range all {
			if got, e := Insert(d, root, x); got != 0 || e != api.ErrSame {
				t.Fatal("twice", e)
			}
		}
		if !bytes.Equal(image, d.Image()) {
			t.Error("what is there already changes something")
		}
	}
}

func TestInsertRefuses(t *testing.T) { // P11.1
	d := fresh(8)
	root, _ := Build(d, []api.Entry{at("a", 1)})
	for _, x := range []struct {
		d    *disk.Disk
		root uint32
		x    api.Entry
		want api.Errno
	}{
		{d, root, at(strings.Repeat("a", 201), 1), api.ErrArg}, {nil, 0, at(strings.Repeat("a", 201), 1), api.ErrArg}, {d, 8, at("a", 1), api.ErrPage}, {nil, root, at("a", 1), api.ErrPage}, {d, 0, at("a", 1), api.ErrForm},
		{d, root, at("a", 1), api.ErrSame}, {d, root, at(strings.Repeat("a", 200), 1), api.OK},
	} {
		if got, e := Insert(x.d, x.root, x.x); e != x.want || e != api.OK && got != 0 {
			t.Error(x.root, x.want, e)
		}
	}
	b, _ := leaf.PutInner([]uint32{3, 7}, []api.Entry{at("c", 0)})
	d.Write(3, b)
	if _, e := Insert(d, 3, at("a", 0)); e != api.ErrForm {
		t.Error("a page below itself", e)
	}
	if _, e := Insert(d, 3, at("d", 0)); e != api.ErrForm {
		t.Error("a page that is none of a tree", e)
	}
	b, _ = leaf.PutInner([]uint32{3, 70}, []api.Entry{at("c", 0)})
	d.Write(3, b)
	if _, e := Insert(d, 3, at("c", 0)); e != api.ErrPage {
		t.Error("a page that isn't there", e)
	}
}

func TestInsertFull(t *testing.T) { // P11.1
	for pages := 2; pages < 14; pages++ {
		d := fresh(pages)
		root, e := Build(d, nil)
		var had []api.Entry
		for i := 0; e == api.OK; i++ {
			x := at(strings.Repeat("k", 190)+string([]byte{byte(i * 37)}), uint32(i))
			var next uint32
			if next, e = Insert(d, root, x); e == api.OK {
				had, root = append(had, x), next
				slices.SortFunc(had, leaf.Compare)
			} else if next != 0 {
				t.Error("a root beside an error")
			}
			right(t, d, root, had)
		}
		if e != api.ErrFull || d.Left() != 0 {
			t.Error(pages, e, d.Left())
		}
	}
}

// TestInsertBeyond: a page whose separators reach beyond those of the page above it (right, as there are no entries there) is split, too.
func TestInsertBeyond(t *testing.T) { // P11.2
	key := func(c string) api.Entry { return at(c+strings.Repeat("x", 199), 0) }
	d := hand(20, map[uint32][]byte{
		1: innerOf([]uint32{2, 3}, at("m", 0)), 2: innerOf([]uint32{4, 5, 6}, key("y"), key("z")), 3: innerOf([]uint32{7, 8}, at("t", 0)),
		4: leafOf(5, key("a"), key("b")), 5: leafOf(6), 6: leafOf(7), 7: leafOf(8, at("m", 0)), 8: leafOf(0, at("t", 0)),
	})
	had := []api.Entry{key("a"), key("b"), at("m", 0), at("t", 0)}
	right(t, d, 1, had)
	for _, x := range []api.Entry{key("c"), key("d"), key("e")} {
		full := d.Copy()
		for full.Left() > 1 {
			full.Take()
		}
		if _, e := Insert(full, 1, x); e != api.ErrFull && e != api.OK {
			t.Error(e)
		}
	}
	root := uint32(1)
	for i, x := range []api.Entry{key("c"), key("d"), key("e")} {
		var e api.Errno
		if root, e = Insert(d, root, x); e != api.OK {
			t.Fatal(e)
		}
		had = slices.Insert(had, 2+i, x)
		right(t, d, root, had)
	}
	d = hand(10, map[uint32][]byte{
		1: innerOf([]uint32{2, 3}, at("m", 0)), 2: innerOf([]uint32{4, 5, 6}, key("y"), key("z")), 3: innerOf([]uint32{7, 8}, at("t", 0)),
		4: leafOf(5, key("a"), key("b")), 5: leafOf(6), 6: leafOf(7), 7: leafOf(8, at("m", 0)), 8: leafOf(0, at("t", 0)),
	})
	if next, e := Insert(d, 1, key("c")); next != 0 || e != api.ErrFull {
		t.Error(next, e)
	}
	right(t, d, 1, []api.Entry{key("a"), key("b"), at("m", 0), at("t", 0)})
}

// ranged are the entries of a range, told the plain way.
func ranged(l []api.Entry, lo, hi string, ends, down bool) []api.Entry {
	var got []api.Entry
	for _, x := range l {
		if x.Key >= lo && (!ends || x.Key < hi) {
			got = append(got, x)
		}
	}
	if down {
		slices.Reverse(got)
	}
	return got
}

func TestRange(t *testing.T) { // P11.3
	r := rand.New(rand.NewSource(13))
	for i := range 60 {
		d := fresh(900)
		l := entries(r, r.Intn(200), []int{3, 40, 200}[i%3])
		root, _ := Build(d, l)
		keys := []string{"", "\x00", "\x80", "\xff\xff"}
		for range 8 {
			if len(l) > 0 {
				key := l[r.Intn(len(l))].Key
				keys = append(keys, key, key+"\x00")
			}
		}
		p := over(d)
		for _, lo := range keys {
			for _, hi := range keys {
				for mode := range 4 {
					ends, down := mode&1 > 0, mode&2 > 0
					got, e := Range(p, root, lo, hi, ends, down)
					if want := ranged(l, lo, hi, ends, down); e != api.OK || !slices.Equal(got, want) {
						t.Fatalf("%q to %q, %v, %v: %d of %d, %v", lo, hi, ends, down, len(got), len(want), e)
					}
				}
			}
			for _, down := range []bool{false, true} {
				want := ranged(l, lo, "", false, false)
				if down {
					want = ranged(l, "", lo, true, true)
				}
				for stop := 1; stop <= len(want)+1; stop += 7 {
					var got []api.Entry
					e := Walk(p, root, lo, down, func(x api.Entry) bool { got = append(got, x); return len(got) < stop })
					if e != api.OK || !slices.Equal(got, want[:min(stop, len(want))]) {
						t.Fatalf("from %q, %v, %d: %d, %v", lo, down, stop, len(got), e)
					}
				}
				if e := Walk(p, root, lo, down, nil); e != api.OK {
					t.Error("nobody to hand entries to", e)
				}
			}
		}
	}
}

// hand puts pages, by their numbers, onto a new disk.
func hand(pages int, made map[uint32][]byte) *disk.Disk {
	d := fresh(pages)
	for i, b := range made {
		d.Write(i, b)
	}
	return d
}

func leafOf(next uint32, l ...api.Entry) []byte {
	b, _ := leaf.PutLeaf(next, l)
	return b
}

func innerOf(children []uint32, l ...api.Entry) []byte {
	b, _ := leaf.PutInner(children, l)
	return b
}

func TestCheck(t *testing.T) { // P11.1
	a, b, c, f, m := at("a", 1), at("b", 1), at("c", 1), at("f", 1), at("m", 1)
	for name, x := range map[string]struct {
		d    *disk.Disk
		want api.Errno
	}{
		"as it should be":              {hand(9, map[uint32][]byte{1: innerOf([]uint32{2, 3}, b), 2: leafOf(3, a), 3: leafOf(0, b, c)}), api.OK},
		"a separator ahead of all":     {hand(9, map[uint32][]byte{1: innerOf([]uint32{2, 3}, b), 2: leafOf(3, a), 3: leafOf(0, c)}), api.OK},
		"empty leaves":                 {hand(9, map[uint32][]byte{1: innerOf([]uint32{2, 3, 4}, b, c), 2: leafOf(3), 3: leafOf(4), 4: leafOf(0)}), api.OK},
		"bounds beyond those above":    {hand(9, map[uint32][]byte{1: innerOf([]uint32{2, 3}, b), 2: innerOf([]uint32{4, 5}, f), 3: innerOf([]uint32{6, 7}, m), 4: leafOf(5, a), 5: leafOf(6), 6: leafOf(7, b, f), 7: leafOf(0, m)}), api.OK},
		"bounds of those above count":  {hand(9, map[uint32][]byte{1: innerOf([]uint32{2, 3}, b), 2: innerOf([]uint32{4, 5}, f), 3: innerOf([]uint32{6, 7}, m), 4: leafOf(5, a, c), 5: leafOf(6), 6: leafOf(7, f), 7: leafOf(0, m)}), api.ErrForm},
		"a separator behind its child": {hand(9, map[uint32][]byte{1: innerOf([]uint32{2, 3}, c), 2: leafOf(3, a), 3: leafOf(0, b, c)}), api.ErrForm},
		"not behind all ahead":         {hand(9, map[uint32][]byte{1: innerOf([]uint32{2, 3}, b), 2: leafOf(3, a, b), 3: leafOf(0, c)}), api.ErrForm},
		"the first child is too far":   {hand(9, map[uint32][]byte{1: innerOf([]uint32{2, 3, 4}, b, c), 2: leafOf(3, a, m), 3: leafOf(4), 4: leafOf(0)}), api.ErrForm},
		"a wrong next one":             {hand(9, map[uint32][]byte{1: innerOf([]uint32{2, 3}, b), 2: leafOf(4, a), 3: leafOf(0, b)}), api.ErrForm},
		"no next one":                  {hand(9, map[uint32][]byte{1: innerOf([]uint32{2, 3}, b), 2: leafOf(0, a), 3: leafOf(0, b)}), api.ErrForm},
		"one behind the last":          {hand(9, map[uint32][]byte{1: innerOf([]uint32{2, 3}, b), 2: leafOf(3, a), 3: leafOf(2, b)}), api.ErrForm},
		"a single leaf with a next":    {hand(9, map[uint32][]byte{1: leafOf(2, a), 2: leafOf(0, b)}), api.ErrForm},
		"led to twice":                 {hand(9, map[uint32][]byte{1: innerOf([]uint32{2, 2}, b), 2: leafOf(2)}), api.ErrForm},
		"round and round":              {hand(9, map[uint32][]byte{1: innerOf([]uint32{1, 2}, b), 2: leafOf(0)}), api.ErrForm},
		"not as deep":                  {hand(9, map[uint32][]byte{1: innerOf([]uint32{2, 3}, c), 2: leafOf(4, a), 3: innerOf([]uint32{4, 5}, f), 4: leafOf(5, c), 5: leafOf(0, f)}), api.ErrForm},
		"deeper ahead":                 {hand(9, map[uint32][]byte{1: innerOf([]uint32{3, 2}, m), 2: leafOf(0, m), 3: innerOf([]uint32{4, 5}, f), 4: leafOf(5, c), 5: leafOf(2, f)}), api.ErrForm},
		"no page of a tree":            {hand(9, map[uint32][]byte{1: innerOf([]uint32{2, 3}, b), 2: leafOf(3, a), 3: disk.Put(api.Head{Kind: api.HeapPage})}), api.ErrForm},
		"a page that isn't there":      {hand(4, map[uint32][]byte{1: innerOf([]uint32{2, 4}, b), 2: leafOf(4, a)}), api.ErrPage},
		"none ahead":                   {hand(4, map[uint32][]byte{1: innerOf([]uint32{4, 2}, b), 2: disk.Put(api.Head{Kind: api.HeapPage})}), api.ErrPage},
		"wrong ahead of none":          {hand(4, map[uint32][]byte{1: innerOf([]uint32{2, 4}, b), 2: leafOf(4, c)}), api.ErrForm},
		"no root":                      {hand(1, nil), api.ErrPage},
	} {
		l, s, e := Check(over(x.d), 1)
		if e != x.want || e != api.OK && (l != nil || s != (Shape{})) {
			t.Error(name, e)
		}
	}
	if l, s, e := Check(nil, 0); l != nil || s != (Shape{}) || e != api.ErrArg {
		t.Error("a nil pool", e)
	}
}

// TestHigh: a tree of 12 pages below each other may be; of 13 none.
func TestHigh(t *testing.T) { // P11.1
	d := fresh(4096)
	first := uint32(1) // the pages of a level stand one behind the other
	for level := range 12 {
		count := uint32(1) << level
		for i := range count {
			b := leafOf(first+i+1, []api.Entry{}...)
			if i+1 == count {
				b = leafOf(0)
			}
			if level < 11 {
				b = innerOf([]uint32{first + count + 2*i, first + count + 2*i + 1}, at("a", 0))
			}
			d.Write(first+i, b)
		}
		first += count
	}
	if s := right(t, d, 1, nil); s != (Shape{0, 2048, 4095, 12}) {
		t.Error(s)
	}
	if root, e := Insert(d, 1, at("b", 0)); root != 1 || e != api.OK {
		t.Error(e)
	}
	right(t, d, 1, []api.Entry{at("b", 0)})
	if l, e := Range(over(d), 1, "", "", false, true); len(l) != 1 || e != api.OK {
		t.Error("12 high", e)
	}
	if e := Walk(over(d), 1, "", false, nil); e != api.OK {
		t.Error("12 high", e)
	}
	d = fresh(40)
	for page := uint32(1); page < 13; page++ {
		d.Write(page, innerOf([]uint32{page + 1, page + 20}, at("a", 0)))
	}
	d.Write(13, leafOf(0, at("", 0)))
	if l, e := Range(over(d), 2, "", "", true, false); len(l) != 0 || e != api.OK {
		t.Error("12 high, up to where the range ends", e)
	}
	if l, e := Range(over(d), 1, "", "", true, false); l != nil || e != api.ErrForm {
		t.Error("13 high", e)
	}
	_, _, e := Check(over(d), 1)
	_, f := Insert(d, 1, at("", 0))
	_, g := Range(over(d), 1, "", "", false, false)
	if e != api.ErrForm || f != api.ErrForm || g != api.ErrForm {
		t.Error("13 high", e, f, g)
	}
	if l, e := Range(over(d), 2, "", "a", true, false); len(l) != 0 || e != api.ErrForm {
		t.Error("a child that is none", e)
	}
}

// TestGone: as many pages may be gone to as the disk has, but no more.
func TestGone(t *testing.T) { // P11.1
	made := map[uint32][]byte{1: innerOf([]uint32{0, 2}, at("b", 0)), 0: leafOf(2, at("a", 0)), 2: leafOf(0, at("b", 0))}
	for _, down := range []bool{false, true} {
		if l, e := Range(over(hand(3, made)), 1, "", "", false, down); len(l) != 2 || e != api.OK {
			t.Error("all pages", e)
		}
	}
	right(t, hand(3, made), 1, []api.Entry{at("a", 0), at("b", 0)})
	made[1] = innerOf([]uint32{0, 2, 2}, at("b", 0), at("c", 0))
	if l, e := Range(over(hand(3, made)), 1, "", "", false, false); l != nil || e != api.ErrForm {
		t.Error("a page more", e)
	}
	if l, e := Range(over(hand(4, made)), 1, "", "", false, false); len(l) != 3 || e != api.OK {
		t.Error("twice, on a greater disk", e)
	}
}

func TestRangeErrors(t *testing.T) { // P11.1
	d := hand(6, map[uint32][]byte{1: innerOf([]uint32{2, 3, 9}, at("b", 0), at("k", 0)), 2: leafOf(3, at("a", 0)), 3: disk.Put(api.Head{Kind: api.HeapPage}), 4: innerOf([]uint32{4, 4}, at("a", 0))})
	for _, x := range []struct {
		root   uint32
		lo, hi string
		down   bool
		want   api.Errno
	}{{6, "", "z", false, api.ErrPage}, {math.MaxUint32, "", "z", true, api.ErrPage}, {0, "", "z", false, api.ErrForm}, {1, "", "z", false, api.ErrForm}, {1, "", "z", true, api.ErrPage}, {1, "c", "z", false, api.ErrForm}, {1, "m", "z", false, api.ErrPage}, {4, "", "z", false, api.ErrForm}, {4, "b", "z", true, api.ErrForm}} {
		if l, e := Range(over(d), x.root, x.lo, x.hi, true, x.down); l != nil || e != x.want {
			t.Error(x, e)
		}
	}
	if l, e := Range(nil, 1, "", "", false, false); l != nil || e == api.OK {
		t.Error("a nil pool")
	}
	if e := Walk(nil, 1, "", false, nil); e == api.OK {
		t.Error("a nil pool")
	}
}

// TestAnyPages: whatever stands on a disk, all ends, in the ranges' order of errors.
func TestAnyPages(t *testing.T) { // P11.4
	r := rand.New(rand.NewSource(14))
	wrong := 0
	for range 400 {
		d := fresh(40)
		root, _ := Build(d, entries(r, 90, 60))
		for range 1 + r.Intn(4) {
			page := uint32(1 + r.Intn(20))
			b, _ := d.Read(page)
			switch r.Intn(4) {
			case 0:
				b[r.Intn(30)] = byte(r.Intn(256))
			case 1:
				b, _ = d.Read(uint32(1 + r.Intn(20)))
			case 2:
				var c []uint32
				for range 3 {
					c = append(c, uint32(1+r.Intn(24)))
				}
				b = innerOf(c, at("a", 0), at("n", 0))
			default:
				b = leafOf(uint32(r.Intn(24)), entries(r, 4, 20)...)
			}
			d.Write(page, b)
		}
		l, _, e := Check(over(d), root)
		for _, down := range []bool{false, true} {
			got, f := Range(over(d), root, "", "", false, down)
			if e == api.OK && (f != api.OK || !slices.Equal(got, ranged(l, "", "", false, down))) {
				t.Error("a right tree", f)
			}
			if f != api.OK && got != nil {
				t.Error("entries beside an error")
			}
		}
		if e != api.OK {
			wrong++
		}
		Insert(d, root, at("zz", 7))
	}
	if wrong == 0 || wrong == 400 {
		t.Error("all alike", wrong)
	}
}
