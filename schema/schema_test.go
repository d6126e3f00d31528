package schema

import (
	"bytes"
	"math"
	"math/rand"
	"slices"
	"strconv"
	"strings"
	"testing"

	"rowlock/api"
	"rowlock/disk"
	"rowlock/pool"
)

// sample is a book of two tables and two indexes.
func sample() api.Book {
	return api.Book{
		Tables: []api.Table{
			{Name: "city", Columns: []api.Column{{Name: "id", Kind: api.Int, Distinct: 7}, {Name: "name", Kind: api.Text, Distinct: 5, Nulls: 2}, {Name: "big", Kind: api.Bool}}, First: 3, Rows: 9, Pages: 2},
			{Name: "land", Columns: []api.Column{{Name: "id", Kind: api.Int}}, First: 5, Rows: 1, Pages: 1},
		},
		Indexes: []api.Index{
			{Name: "city_id", Table: 0, Columns: []int{0}, Root: 8, Leaves: 1, High: 1, Distinct: []int{7}},
			{Name: "city", Table: 0, Columns: []int{2, 1}, Root: 258, Leaves: 65536, High: 3, Distinct: []int{2, 8}},
		},
	}
}

// great is a book with as much of all as there may be.
func great() api.Book {
	var b api.Book
	for i := range 16 {
		t := api.Table{Name: strings.Repeat("t", 22) + strconv.Itoa(10+i), First: math.MaxInt32, Rows: math.MaxInt32, Pages: math.MaxInt32}
		for k := range 8 {
			t.Columns = append(t.Columns, api.Column{Name: strings.Repeat("c", 23) + strconv.Itoa(k), Kind: uint8(1 + k%3), Distinct: math.MaxInt32, Nulls: k})
		}
		b.Tables = append(b.Tables, t)
		b.Indexes = append(b.Indexes, api.Index{Name: strings.Repeat("i", 22) + strconv.Itoa(10+i), Table: i, Columns: []int{7, 0}, Root: math.MaxInt32, Leaves: i, High: i, Distinct: []int{0, math.MaxInt32}})
	}
	return b
}

func TestName(t *testing.T) { // P12.1
	for _, s := range []string{"a", "z", "a0", "a_", "abc_9", strings.Repeat("a", 24)} {
		if !Name(s) {
			t.Error(s)
		}
	}
	for _, s := range []string{"", "A", "0", "_", "_a", "9a", "aB", "a-b", "a b", "a\x00", "é", "aé", "`", "{", "a`", "a{", "a/", "a:", strings.Repeat("a", 25)} {
		if Name(s) {
			t.Error(s)
		}
	}
}

// changes are books of which each is sample or great, but for one thing that may not be.
func changes() map[string]api.Book {
	m := map[string]api.Book{}
	put := func(name string, b api.Book, change func(b *api.Book)) {
		change(&b)
		m[name] = b
	}
	put("17 tables", great(), func(b *api.Book) { b.Tables = append(b.Tables, sample().Tables[0]) })
	put("17 indexes", great(), func(b *api.Book) { b.Indexes = append(b.Indexes, sample().Indexes[0]) })
	put("a table's name", sample(), func(b *api.Book) { b.Tables[0].Name = "City" })
	put("tables of one name", sample(), func(b *api.Book) { b.Tables[1].Name = "city" })
	put("no columns", sample(), func(b *api.Book) { b.Tables[1].Columns = nil })
	put("9 columns", great(), func(b *api.Book) {
		b.Tables[2].Columns = append(b.Tables[2].Columns, api.Column{Name: "x", Kind: api.Int})
	})
	put("a column's name", sample(), func(b *api.Book) { b.Tables[0].Columns[1].Name = "" })
	put("columns of one name", sample(), func(b *api.Book) { b.Tables[0].Columns[2].Name = "id" })
	put("kind Null", sample(), func(b *api.Book) { b.Tables[0].Columns[1].Kind = api.Null })
	put("kind 4", sample(), func(b *api.Book) { b.Tables[0].Columns[1].Kind = 4 })
	put("an index' name", sample(), func(b *api.Book) { b.Indexes[1].Name = "9" })
	put("indexes of one name", sample(), func(b *api.Book) { b.Indexes[1].Name = "city_id" })
	put("an index of no table", sample(), func(b *api.Book) { b.Indexes[1].Table = 2 })
	put("an index of a table below 0", sample(), func(b *api.Book) { b.Indexes[1].Table = -1 })
	put("an index of no columns", sample(), func(b *api.Book) { b.Indexes[0].Columns, b.Indexes[0].Distinct = nil, nil })
	put("an index of 3 columns", sample(), func(b *api.Book) { b.Indexes[0].Columns, b.Indexes[0].Distinct = []int{0, 1, 2}, []int{1, 1, 1} })
	put("a column that isn't there", sample(), func(b *api.Book) { b.Indexes[1].Columns[1] = 3 })
	put("a column below 0", sample(), func(b *api.Book) { b.Indexes[1].Columns[0] = -1 })
	put("a column twice", sample(), func(b *api.Book) { b.Indexes[1].Columns[0] = 1 })
	put("a Distinct less", sample(), func(b *api.Book) { b.Indexes[1].Distinct = []int{1} })
	put("a Distinct more", sample(), func(b *api.Book) { b.Indexes[0].Distinct = []int{1, 1} })
	for _, n := range []int{-1, math.MaxInt32 + 1, math.MaxInt64, math.MinInt64} {
		s := strconv.Itoa(n)
		put("Distinct "+s, sample(), func(b *api.Book) { b.Tables[0].Columns[2].Distinct = n })
		put("Nulls "+s, sample(), func(b *api.Book) { b.Tables[0].Columns[2].Nulls = n })
		put("Rows "+s, sample(), func(b *api.Book) { b.Tables[1].Rows = n })
		put("Pages "+s, sample(), func(b *api.Book) { b.Tables[1].Pages = n })
		put("Leaves "+s, sample(), func(b *api.Book) { b.Indexes[1].Leaves = n })
		put("High "+s, sample(), func(b *api.Book) { b.Indexes[1].High = n })
		put("an index' Distinct "+s, sample(), func(b *api.Book) { b.Indexes[1].Distinct[1] = n })
	}
	put("First", sample(), func(b *api.Book) { b.Tables[0].First = 1 << 31 })
	put("Root", sample(), func(b *api.Book) { b.Indexes[0].Root = 1 << 31 })
	return m
}

func TestMay(t *testing.T) { // P12.1
	for i, b := range []api.Book{{}, sample(), great()} {
		if !May(b) {
			t.Error(i)
		}
	}
	d, _ := disk.New(40)
	for name, b := range changes() {
		w, e := Put(b)
		if May(b) || w != nil || e != api.ErrArg || Store(d, b) != api.ErrArg {
			t.Error(name, e)
		}
	}
	if d.Left() != 39 || !bytes.Equal(d.Image(), make([]byte, 40*512)) {
		t.Error("a book that may not be leaves something on the disk")
	}
}

func TestWriting(t *testing.T) { // P12.1
	if w, e := Put(api.Book{}); e != api.OK || !bytes.Equal(w, []byte{0, 0}) {
		t.Error("a book of nothing", w, e)
	}
	want := "\x02\x04city\x03\x02id\x01\x00\x00\x00\x07\x00\x00\x00\x00\x04name\x03\x00\x00\x00\x05\x00\x00\x00\x02\x03big\x02\x00\x00\x00\x00\x00\x00\x00\x00\x00\x00\x00\x03\x00\x00\x00\x09\x00\x00\x00\x02" +
		"\x04land\x01\x02id\x01\x00\x00\x00\x00\x00\x00\x00\x00\x00\x00\x00\x05\x00\x00\x00\x01\x00\x00\x00\x01" +
		"\x02\x07city_id\x00\x01\x00\x00\x00\x00\x08\x00\x00\x00\x01\x00\x00\x00\x01\x00\x00\x00\x07" +
		"\x04city\x00\x02\x02\x01\x00\x00\x01\x02\x00\x01\x00\x00\x00\x00\x00\x03\x00\x00\x00\x02\x00\x00\x00\x08"
	if w, e := Put(sample()); e != api.OK || string(w) != want {
		t.Errorf("%q, %v", w, e)
	}
}

func TestThereAndBack(t *testing.T) { // P12.2
	for i, b := range []api.Book{{}, sample(), great()} {
		w, _ := Put(b)
		got, e := Get(w)
		if e != api.OK || !Same(got, b) {
			t.Error(i, e)
		}
		for n := range w {
			if got, e := Get(w[:n]); e != api.ErrForm || !Same(got, api.Book{}) {
				t.Error("cut off", i, n, e)
			}
		}
		if _, e := Get(append(w, 0)); e != api.ErrForm {
			t.Error("a byte more", i, e)
		}
		d, _ := disk.New(40)
		d.Take()
		need := max(1, (len(w)+503)/504)
		if e := Store(d, b); e != api.OK || d.Left() != 38-(need-1) {
			t.Error("store", i, e, d.Left())
		}
		p, _ := pool.New(d, 2)
		got, pages, e := Load(p)
		if e != api.OK || !Same(got, b) || len(pages) != need || pages[0] != 0 || slices.Contains(pages, 1) {
			t.Error("load", i, e, pages)
		}
	}
	r := rand.New(rand.NewSource(12))
	w, _ := Put(sample())
	for range 20000 {
		x := slices.Clone(w)
		for range 1 + r.Intn(3) {
			x[r.Intn(len(x))] = byte(r.Intn(256))
		}
		b, e := Get(x)
		if e == api.OK {
			if again, f := Put(b); f != api.OK || !bytes.Equal(again, x) {
				t.Errorf("%q", x)
			}
		} else if e != api.ErrForm {
			t.Error(e)
		}
	}
}

func TestStore(t *testing.T) { // P12.1
	if Store(nil, sample()) != api.ErrArg {
		t.Error("a nil disk")
	}
	w, _ := Put(great())
	need := (len(w) + 503) / 504
	d, _ := disk.New(need - 1)
	before := d.Image()
	if e := Store(d, great()); e != api.ErrFull || d.Left() != 0 || !bytes.Equal(before, d.Image()) {
		t.Error("too few pages", e, d.Left())
	}
	d, _ = disk.New(need)
	if e := Store(d, great()); e != api.OK || d.Left() != 0 {
		t.Error(e)
	}
	if b, _ := d.Read(0); !bytes.Equal(b[:8], []byte{4, 0, 1, 248, 0, 0, 0, 1}) || !bytes.Equal(b[8:], w[:504]) {
		t.Error("the first page", b[:8])
	}
	last := uint32(need - 1)
	rest := w[504*(need-1):]
	if b, _ := d.Read(last); b[4]|b[5]|b[6]|b[7] != 0 || !bytes.Equal(b[8:8+len(rest)], rest) || !bytes.Equal(b[8+len(rest):], make([]byte, 504-len(rest))) {
		t.Error("the last page")
	}
}

// TestFullPage: a writing that fills its pages to the last byte needs no page more.
func TestFullPage(t *testing.T) { // P12.1
	for _, n := range []int{504, 505} {
		b := api.Book{Tables: []api.Table{{Name: "a"}, {Name: "b"}}}
		for i := range 8 {
			b.Tables[0].Columns = append(b.Tables[0].Columns, api.Column{Name: strings.Repeat("c", 19) + strconv.Itoa(i), Kind: api.Int})
			b.Tables[1].Columns = append(b.Tables[1].Columns, api.Column{Name: strings.Repeat("c", 18) + strconv.Itoa(i), Kind: api.Int})
		}
		b.Tables[1].Columns[0].Name += strings.Repeat("x", n-504)
		if w, _ := Put(b); len(w) != n {
			t.Fatal(len(w))
		}
		d, _ := disk.New(3)
		if e := Store(d, b); e != api.OK || d.Left() != 2-(n-504) {
			t.Error(n, e, d.Left())
		}
		p, _ := pool.New(d, 1)
		if got, pages, e := Load(p); e != api.OK || !Same(got, b) || len(pages) != n-503 {
			t.Error(n, e, pages)
		}
	}
}

func TestLoadErrors(t *testing.T) { // P12.1
	whole := func() *disk.Disk { d, _ := disk.New(60); Store(d, great()); return d }
	for name, x := range map[string]struct {
		page uint32
		do   func(b []byte)
		want api.Errno
	}{
		"another kind":           {0, func(b []byte) { b[0] = api.HeapPage }, api.ErrForm},
		"another kind behind":    {3, func(b []byte) { b[0] = api.HeapPage }, api.ErrForm},
		"no head":                {2, func(b []byte) { b[1] = 1 }, api.ErrForm},
		"not full":               {0, func(b []byte) { b[3]-- }, api.ErrForm},
		"too full":               {0, func(b []byte) { b[3]++ }, api.ErrForm},
		"far too full":           {1, func(b []byte) { b[2] = 255 }, api.ErrForm},
		"to no page":             {1, func(b []byte) { b[7] = 60 }, api.ErrPage},
		"round and round":        {3, func(b []byte) { b[7] = 2 }, api.ErrForm},
		"to itself":              {1, func(b []byte) { b[7] = 1 }, api.ErrForm},
		"too short":              {1, func(b []byte) { b[7] = 0 }, api.ErrForm},
		"a name that may not be": {0, func(b []byte) { b[10] = 'T' }, api.ErrForm},
	} {
		d := whole()
		b, _ := d.Read(x.page)
		x.do(b)
		d.Write(x.page, b)
		p, _ := pool.New(d, 5)
		if book, pages, e := Load(p); e != x.want || pages != nil || !Same(book, api.Book{}) {
			t.Error(name, e)
		}
	}
	d, _ := disk.New(2)
	Store(d, sample())
	b, _ := d.Read(0)
	b[511] = 1
	d.Write(0, b)
	p, _ := pool.New(d, 1)
	if _, _, e := Load(p); e != api.ErrForm {
		t.Error("bytes behind", e)
	}
	d, _ = disk.New(2)
	p, _ = pool.New(d, 1)
	if _, _, e := Load(p); e != api.ErrForm {
		t.Error("a new disk", e)
	}
	if _, _, e := Load(nil); e != api.ErrArg {
		t.Error("a nil pool", e)
	}
}

func TestLookups(t *testing.T) { // P12.1
	b := sample()
	if !slices.Equal(Kinds(b.Tables[0]), []uint8{1, 3, 2}) || len(Kinds(api.Table{})) != 0 {
		t.Error("kinds")
	}
	if Find(b, "city") != 0 || Find(b, "land") != 1 || Find(b, "city_id") != -1 || Find(b, "") != -1 || Find(api.Book{}, "city") != -1 {
		t.Error("find")
	}
	if !Same(b, sample()) || !Same(api.Book{}, api.Book{Tables: []api.Table{}, Indexes: []api.Index{}}) || Same(b, api.Book{}) {
		t.Error("same")
	}
	for name, c := range changes() {
		if other := sample(); strings.HasPrefix(name, "17") || name == "9 columns" {
			continue
		} else if Same(c, other) || Same(other, c) {
			t.Error(name)
		}
	}
	c := sample()
	c.Tables[1].Columns[0].Kind = api.Text
	if Same(b, c) {
		t.Error("kinds differ")
	}
}
