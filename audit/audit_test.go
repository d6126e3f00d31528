package audit

import (
	"bytes"
	"math/rand"
	"slices"
	"strings"
	"testing"

	"rowlock/api"
	"rowlock/btree"
	"rowlock/disk"
	"rowlock/heap"
	"rowlock/leaf"
	"rowlock/load"
	"rowlock/pool"
	"rowlock/rowcode"
	"rowlock/schema"
	"rowlock/slots"
	"rowlock/val"
)

func num(n int64) api.Value   { return api.Value{Kind: api.Int, Int: n} }
func bit(n int64) api.Value   { return api.Value{Kind: api.Bool, Int: n} }
func text(s string) api.Value { return api.Value{Kind: api.Text, Text: s} }

func over(d *disk.Disk) *pool.Pool {
	p, _ := pool.New(d, 3)
	return p
}

// sample is a script of two tables, one of them of many pages, and three indexes.
func sample() api.Script {
	s := api.Script{
		Tables: []api.Table{
			{Name: "city", Columns: []api.Column{{Name: "id", Kind: api.Int}, {Name: "name", Kind: api.Text}, {Name: "big", Kind: api.Bool}}},
			{Name: "land", Columns: []api.Column{{Name: "id", Kind: api.Int}}},
		},
		Indexes: []api.Index{{Name: "by_id", Table: 0, Columns: []int{0}}, {Name: "by_both", Table: 0, Columns: []int{1, 0}}, {Name: "land_id", Table: 1, Columns: []int{0}}},
		Rows:    [][][]api.Value{nil, {{num(4)}, {{}}}},
	}
	for i := range int64(70) {
		s.Rows[0] = append(s.Rows[0], []api.Value{num(i % 30), text(strings.Repeat("x", int(i%7))), bit(i % 2)})
	}
	return s
}

func loaded(t *testing.T, s api.Script) (*disk.Disk, api.Book) {
	t.Helper()
	d, b, e := load.Load(80, s)
	if e != api.OK {
		t.Fatal(e)
	}
	return d, b
}

func TestLoaded(t *testing.T) { // P14.2
	for i, s := range []api.Script{{}, sample()} {
		d, want := loaded(t, s)
		before := d.Image()
		b, e := Check(over(d))
		if e != api.OK || !schema.Same(b, want) {
			t.Error(i, e)
		}
		all, e := Database(over(d))
		if e != api.OK || len(all) != len(s.Rows) {
			t.Fatal(i, e)
		}
		for k := range all {
			if !slices.EqualFunc(all[k], s.Rows[k], val.Same) {
				t.Error("rows", i, k)
			}
			rows, rids, e := Rows(over(d), b.Tables[k])
			if e != api.OK || !slices.EqualFunc(rows, s.Rows[k], val.Same) || len(rids) != len(rows) {
				t.Error("rows of a table", i, k, e)
			}
			for n, at := range rids {
				if row, e := Row(over(d), b.Tables[k], at); e != api.OK || !val.Same(row, rows[n]) {
					t.Error("row", i, k, n, e)
				}
			}
		}
		if !bytes.Equal(before, d.Image()) {
			t.Error("the disk changed")
		}
	}
}

// refused fails, unless a disk isn't all right.
func refused(t *testing.T, name string, d *disk.Disk) {
	t.Helper()
	b, e := Check(over(d))
	rows, f := Database(over(d))
	if e != api.ErrCatalog || f != api.ErrCatalog || rows != nil || !schema.Same(b, api.Book{}) {
		t.Error(name, e, f)
	}
}

func TestNumbers(t *testing.T) { // P14.1
	for name, do := range map[string]func(b *api.Book){
		"rows":             func(b *api.Book) { b.Tables[0].Rows++ },
		"pages":            func(b *api.Book) { b.Tables[0].Pages++ },
		"pages less":       func(b *api.Book) { b.Tables[0].Pages-- },
		"no pages":         func(b *api.Book) { b.Tables[1].Pages = 0 },
		"first":            func(b *api.Book) { b.Tables[0].First++ },
		"first of none":    func(b *api.Book) { b.Tables[0].First = 80 },
		"distinct":         func(b *api.Book) { b.Tables[0].Columns[1].Distinct-- },
		"nulls":            func(b *api.Book) { b.Tables[1].Columns[0].Nulls = 0 },
		"a kind":           func(b *api.Book) { b.Tables[0].Columns[0].Kind = api.Text },
		"a column less":    func(b *api.Book) { b.Tables[0].Columns = b.Tables[0].Columns[:2] },
		"leaves":           func(b *api.Book) { b.Indexes[0].Leaves++ },
		"high":             func(b *api.Book) { b.Indexes[0].High-- },
		"root":             func(b *api.Book) { b.Indexes[0].Root = b.Indexes[2].Root },
		"root of none":     func(b *api.Book) { b.Indexes[0].Root = 1 << 30 },
		"keys of one":      func(b *api.Book) { b.Indexes[1].Distinct[0]++ },
		"keys of two":      func(b *api.Book) { b.Indexes[1].Distinct[1]++ },
		"an index' column": func(b *api.Book) { b.Indexes[0].Columns[0] = 2 },
		"one heap for two": func(b *api.Book) { b.Tables = append(b.Tables, b.Tables[1]); b.Tables[2].Name = "other" },
		"one tree for two": func(b *api.Book) { b.Indexes = append(b.Indexes, b.Indexes[2]); b.Indexes[3].Name = "other" },
	} {
		d, b := loaded(t, sample())
		do(&b)
		if e := schema.Store(d, b); e != api.OK {
			t.Fatal(name, e)
		}
		refused(t, name, d)
	}
}

func TestPages(t *testing.T) { // P14.1
	if _, e := Check(nil); e != api.ErrArg {
		t.Error("a nil pool", e)
	}
	if rows, e := Database(nil); e != api.ErrArg || rows != nil {
		t.Error("a nil pool", e)
	}
	fresh, _ := disk.New(9)
	refused(t, "a new disk", fresh)

	d, b := loaded(t, sample())
	root, _ := btree.Insert(d, b.Indexes[2].Root, api.Entry{Key: "\x01", Rid: api.Rid{Page: 2}})
	if root != b.Indexes[2].Root {
		t.Fatal("split")
	}
	refused(t, "an entry more", d)

	d, b = loaded(t, sample())
	page, _ := leaf.PutLeaf(0, nil)
	d.Write(b.Indexes[2].Root, page)
	refused(t, "entries less", d)

	d, b = loaded(t, sample())
	x, _ := d.Read(b.Tables[1].First)
	x, _ = slots.Link(x, b.Tables[1].First)
	d.Write(b.Tables[1].First, x)
	refused(t, "a heap round and round", d)

	// A page without rows at a heap's end: right, if the numbers say so; not, if it stands in two heaps.
	d, b = loaded(t, sample())
	last := b.Tables[1].First
	empty, _ := d.Take()
	d.Write(empty, slots.New(0))
	x, _ = d.Read(last)
	x, _ = slots.Link(x, empty)
	d.Write(last, x)
	refused(t, "a page more than the book tells", d)
	b.Tables[1].Pages = 2
	schema.Store(d, b)
	if _, e := Check(over(d)); e != api.OK {
		t.Error("a page without rows", e)
	}
	b.Tables = append(b.Tables, api.Table{Name: "none", Columns: []api.Column{{Name: "a", Kind: api.Int}}, First: empty, Pages: 1})
	schema.Store(d, b)
	refused(t, "a page in two heaps", d)

	// A record that is a writing, but not of the table's kinds; one that is none.
	for _, row := range [][]byte{{1, 2, 1}, {1, 0, 0}, {2, 0, 0}} {
		d, b = loaded(t, sample())
		page, _, _ := slots.Add(slots.New(0), row)
		d.Write(b.Tables[1].First, page)
		if rows, rids, e := Rows(over(d), b.Tables[1]); rows != nil || rids != nil || e != api.ErrForm {
			t.Error(row, e)
		}
		if r, e := Row(over(d), b.Tables[1], api.Rid{Page: b.Tables[1].First}); r != nil || e != api.ErrForm {
			t.Error(row, e)
		}
		refused(t, "a record", d)
	}
}

func TestRowErrors(t *testing.T) { // P14.1
	d, b := loaded(t, sample())
	p := over(d)
	land := b.Tables[1]
	for _, x := range []struct {
		at   api.Rid
		want api.Errno
	}{{api.Rid{Page: land.First, Slot: 2}, api.ErrNone}, {api.Rid{Page: 0}, api.ErrForm}, {api.Rid{Page: 80}, api.ErrPage}, {api.Rid{Page: b.Tables[0].First}, api.ErrForm}} {
		if row, e := Row(p, land, x.at); row != nil || e != x.want {
			t.Error(x, e)
		}
	}
	land.First = 80
	if rows, rids, e := Rows(p, land); rows != nil || rids != nil || e != api.ErrPage {
		t.Error(e)
	}
	land.First = 0
	if _, _, e := Rows(p, land); e != api.ErrForm {
		t.Error(e)
	}
	if _, _, e := Rows(nil, land); e == api.OK {
		t.Error("a nil pool")
	}
}

// TestShared: a page may stand in one thing alone, the book's own too.
func TestShared(t *testing.T) { // P14.1
	d, _ := disk.New(6)
	r, _ := rowcode.Put([]api.Value{num(1)})
	first, _, _ := heap.Fill(d, [][]byte{r})
	table := func(name string) api.Table {
		return api.Table{Name: name, Columns: []api.Column{{Name: "a", Kind: api.Int, Distinct: 1}}, First: first, Rows: 1, Pages: 1}
	}
	schema.Store(d, api.Book{Tables: []api.Table{table("a")}})
	if _, e := Check(over(d)); e != api.OK {
		t.Error(e)
	}
	schema.Store(d, api.Book{Tables: []api.Table{table("a"), table("b")}})
	refused(t, "two tables of one heap", d)
}

// TestSharedLeaves: two trees, each of them right, may not share the pages below their roots.
func TestSharedLeaves(t *testing.T) { // P14.1
	d, b := loaded(t, sample())
	root, _ := d.Read(b.Indexes[0].Root)
	if _, _, e := leaf.GetInner(root); e != api.OK {
		t.Fatal("a tree of one page")
	}
	other, _ := d.Take()
	d.Write(other, root)
	twin := b.Indexes[0]
	twin.Name, twin.Root = "twin", other
	b.Indexes = append(b.Indexes, twin)
	schema.Store(d, b)
	refused(t, "two trees of the same leaves", d)
}

func TestAnyDisk(t *testing.T) { // P14.1: whatever stands on a disk, all calls end.
	r := rand.New(rand.NewSource(14))
	good, b := loaded(t, sample())
	image := good.Image()
	fine := 0
	for range 1500 {
		x := slices.Clone(image)
		for range 1 + r.Intn(3) {
			page := r.Intn(30) * api.PageSize
			x[page+r.Intn([]int{8, 40, 512}[r.Intn(3)])] = byte(r.Intn(256))
		}
		if r.Intn(9) == 0 {
			copy(x[r.Intn(30)*512:][:512], x[r.Intn(30)*512:])
		}
		d, _ := disk.Load(x)
		p := over(d)
		_, e := Check(p)
		all, f := Database(p)
		if e != f || e != api.OK && (e != api.ErrCatalog || all != nil) {
			t.Fatal(e, f)
		}
		if e == api.OK {
			fine++
		}
		Rows(p, b.Tables[r.Intn(2)])
		if !bytes.Equal(x, d.Image()) {
			t.Fatal("the disk changed")
		}
	}
	if fine == 1500 {
		t.Error("nothing was found")
	}
}
