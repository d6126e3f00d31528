package load

import (
	"bytes"
	"math"
	"math/rand"
	"slices"
	"strings"
	"testing"

	"rowlock/api"
	"rowlock/btree"
	"rowlock/disk"
	"rowlock/heap"
	"rowlock/keycode"
	"rowlock/leaf"
	"rowlock/pool"
	"rowlock/rowcode"
	"rowlock/schema"
	"rowlock/val"
)

func num(n int64) api.Value   { return api.Value{Kind: api.Int, Int: n} }
func bit(n int64) api.Value   { return api.Value{Kind: api.Bool, Int: n} }
func text(s string) api.Value { return api.Value{Kind: api.Text, Text: s} }

// sample is a script of two tables and three indexes; its numbers don't count.
func sample() api.Script {
	return api.Script{
		Tables: []api.Table{
			{Name: "city", Columns: []api.Column{{Name: "id", Kind: api.Int, Distinct: -7}, {Name: "name", Kind: api.Text, Nulls: 1 << 40}, {Name: "big", Kind: api.Bool}}, First: 77, Rows: -1, Pages: 5},
			{Name: "land", Columns: []api.Column{{Name: "id", Kind: api.Int}}},
		},
		Indexes: []api.Index{
			{Name: "by_id", Table: 0, Columns: []int{0}, Root: 4, Leaves: -5, Distinct: []int{1, 2, 3}},
			{Name: "by_both", Table: 0, Columns: []int{2, 1}},
			{Name: "land_id", Table: 1, Columns: []int{0}},
		},
		Rows: [][][]api.Value{
			{{num(3), text("b"), bit(1)}, {num(1), {}, {}}, {num(3), text("b"), bit(1)}, {{}, text("a"), bit(1)}, {num(2), {}, {}}, {num(9), text("a"), {}}},
			nil,
		},
	}
}

// script is one of random tables, indexes and rows.
func script(r *rand.Rand) api.Script {
	var s api.Script
	for i := range 1 + r.Intn(3) {
		t := api.Table{Name: "t" + string([]byte{byte('a' + i)})}
		for k := range 1 + r.Intn(4) {
			t.Columns = append(t.Columns, api.Column{Name: "c" + string([]byte{byte('a' + k)}), Kind: uint8(1 + r.Intn(3))})
		}
		var rows [][]api.Value
		for range r.Intn(80) {
			var row []api.Value
			for _, c := range t.Columns {
				v := []api.Value{num(int64(r.Intn(9) - 4)), bit(int64(r.Intn(2))), text(strings.Repeat("q", r.Intn(49)))}[c.Kind-1]
				if r.Intn(5) == 0 {
					v = api.Value{}
				}
				row = append(row, v)
			}
			rows = append(rows, row)
		}
		s.Tables, s.Rows = append(s.Tables, t), append(s.Rows, rows)
	}
	for i := range r.Intn(4) {
		t := r.Intn(len(s.Tables))
		cols := r.Perm(len(s.Tables[t].Columns))
		s.Indexes = append(s.Indexes, api.Index{Name: "x" + string([]byte{byte('a' + i)}), Table: t, Columns: cols[:min(len(cols), 1+r.Intn(2))]})
	}
	return s
}

func over(d *disk.Disk) *pool.Pool {
	p, _ := pool.New(d, 3)
	return p
}

// count is how many different keys rows have in some columns, told the plain way.
func count(rows [][]api.Value, columns []int) int {
	m := map[string]int{}
	for _, row := range rows {
		var part []api.Value
		for _, c := range columns {
			part = append(part, row[c])
		}
		key, _ := keycode.Put(part)
		m[key]++
	}
	return len(m)
}

// true fails, unless a disk has all that a script tells, with numbers that are true.
func loaded(t *testing.T, d *disk.Disk, b api.Book, s api.Script) {
	t.Helper()
	stored, _, e := schema.Load(over(d))
	if e != api.OK || !schema.Same(stored, b) {
		t.Fatal("the book that stands there", e)
	}
	rids := make([][]api.Rid, len(s.Tables))
	for i, x := range b.Tables {
		items, pages, e := heap.Scan(over(d), x.First)
		if e != api.OK || pages != x.Pages || len(items) != x.Rows || x.Rows != len(s.Rows[i]) {
			t.Fatal("heap", i, e, pages, x)
		}
		for k, it := range items {
			if row, e := rowcode.Get(it.Record); e != api.OK || !val.Same(row, s.Rows[i][k]) {
				t.Fatal("row", i, k, e)
			}
			rids[i] = append(rids[i], it.Rid)
		}
		for c, col := range x.Columns {
			nulls := 0
			for _, row := range s.Rows[i] {
				if row[c].Kind == api.Null {
					nulls++
				}
			}
			distinct := count(s.Rows[i], []int{c}) - min(1, nulls)
			if col.Nulls != nulls || col.Distinct != distinct || col.Name != s.Tables[i].Columns[c].Name || col.Kind != s.Tables[i].Columns[c].Kind {
				t.Fatal("column", i, c, col, nulls, distinct)
			}
		}
	}
	for i, x := range b.Indexes {
		l, shape, e := btree.Check(over(d), x.Root)
		if e != api.OK || shape.Leaves != x.Leaves || shape.High != x.High || x.Table != s.Indexes[i].Table || !slices.Equal(x.Columns, s.Indexes[i].Columns) || x.Name != s.Indexes[i].Name {
			t.Fatal("tree", i, e, shape, x)
		}
		rows := s.Rows[x.Table]
		for k := range x.Columns {
			if want := count(rows, x.Columns[:k+1]); x.Distinct[k] != want {
				t.Fatal("Distinct", i, k, x.Distinct, want)
			}
		}
		if len(l) != len(rows) || len(x.Distinct) != len(x.Columns) {
			t.Fatal("entries", i, len(l))
		}
		for _, entry := range l {
			k := slices.Index(rids[x.Table], entry.Rid)
			if k < 0 || count([][]api.Value{rows[k]}, x.Columns) != 1 {
				t.Fatal("entry", i, entry)
			}
			if key, _ := keyOf(x.Columns, rows[k]); key != entry.Key {
				t.Fatal("key", i, entry)
			}
		}
	}
}

func TestMay(t *testing.T) { // P13.1
	if !May(sample()) || !May(api.Script{}) {
		t.Error("may be")
	}
	for name, do := range map[string]func(s *api.Script){
		"a table's name":     func(s *api.Script) { s.Tables[0].Name = "1" },
		"tables of one name": func(s *api.Script) { s.Tables[0].Name = "land" },
		"a kind":             func(s *api.Script) { s.Tables[1].Columns[0].Kind = 4 },
		"an index' table":    func(s *api.Script) { s.Indexes[0].Table = 2 },
		"an index' column":   func(s *api.Script) { s.Indexes[2].Columns[0] = 1 },
		"no columns":         func(s *api.Script) { s.Indexes[2].Columns = nil },
		"rows too few":       func(s *api.Script) { s.Rows = s.Rows[:1] },
		"rows too many":      func(s *api.Script) { s.Rows = append(s.Rows, nil) },
		"a row too short":    func(s *api.Script) { s.Rows[0][2] = s.Rows[0][2][:2] },
		"a row too long":     func(s *api.Script) { s.Rows[1] = [][]api.Value{{num(1), num(2)}} },
		"a value of another": func(s *api.Script) { s.Rows[0][5][0] = bit(1) },
		"a value not to be":  func(s *api.Script) { s.Rows[0][5][2] = bit(2) },
	} {
		s := sample()
		do(&s)
		d, b, e := Load(50, s)
		if May(s) || d != nil || e != api.ErrArg || !schema.Same(b, api.Book{}) {
			t.Error(name, e)
		}
	}
}

func TestLoad(t *testing.T) { // P13.1, P13.2
	s := sample()
	d, b, e := Load(50, s)
	if e != api.OK {
		t.Fatal(e)
	}
	loaded(t, d, b, s)
	if c := b.Tables[0].Columns; c[0].Distinct != 4 || c[0].Nulls != 1 || c[1].Distinct != 2 || c[1].Nulls != 2 || c[2].Distinct != 1 || c[2].Nulls != 3 {
		t.Error(c)
	}
	if !slices.Equal(b.Indexes[0].Distinct, []int{5}) || !slices.Equal(b.Indexes[1].Distinct, []int{2, 4}) || !slices.Equal(b.Indexes[2].Distinct, []int{0}) {
		t.Error(b.Indexes)
	}
	if s.Tables[0].Rows != -1 || !slices.Equal(s.Indexes[0].Distinct, []int{1, 2, 3}) {
		t.Error("the script changed")
	}
	b.Indexes[0].Columns[0] = 9
	if s.Indexes[0].Columns[0] != 0 {
		t.Error("the book is the script's memory")
	}
	d, b, e = Load(1, api.Script{})
	if e != api.OK || !schema.Same(b, api.Book{}) || d.Len() != 1 {
		t.Error("a script of nothing", e)
	}
	loaded(t, d, b, api.Script{})
	r := rand.New(rand.NewSource(13))
	for range 60 {
		s := script(r)
		d, b, e := Load(600, s)
		if e != api.OK {
			t.Fatal(e)
		}
		loaded(t, d, b, s)
	}
}

func TestLoadRefuses(t *testing.T) { // P13.1
	for _, pages := range []int{0, -1, 4097, math.MaxInt, math.MinInt} {
		if d, b, e := Load(pages, sample()); d != nil || e != api.ErrArg || !schema.Same(b, api.Book{}) {
			t.Error(pages, e)
		}
	}
	full := 0
	for pages := 1; pages < 12; pages++ {
		d, b, e := Load(pages, sample())
		if e == api.ErrFull && d == nil && schema.Same(b, api.Book{}) {
			full = pages
		} else if e != api.OK || d.Len() != pages {
			t.Error(pages, e)
		}
	}
	if full != 5 { // two heaps, three trees, and the book
		t.Error("full up to", full, "pages")
	}
	wide := api.Script{Tables: []api.Table{{Name: "t"}}, Rows: [][][]api.Value{{nil}}, Indexes: []api.Index{{Name: "x", Columns: []int{0, 1}}}}
	for i := range 8 {
		wide.Tables[0].Columns = append(wide.Tables[0].Columns, api.Column{Name: string([]byte{byte('a' + i)}), Kind: api.Text})
		wide.Rows[0][0] = append(wide.Rows[0][0], text(strings.Repeat("\x00", 48)))
	}
	if d, b, e := Load(9, wide); e != api.OK {
		t.Error("the longest row and key that may be", e)
	} else {
		loaded(t, d, b, wide)
	}
}

func TestAppend(t *testing.T) { // P13.1, P13.2
	s := sample()
	d, _, _ := Load(50, s)
	before := d.Image()
	more := [][]api.Value{{num(5), text("z"), {}}, {num(5), text("z"), {}}}
	anew, e := Append(d, 0, more)
	if e != api.OK || anew.Len() != 50 || !bytes.Equal(before, d.Image()) {
		t.Fatal(e)
	}
	s.Rows[0] = append(s.Rows[0], more...)
	b, _, _ := schema.Load(over(anew))
	loaded(t, anew, b, s)
	anew, e = Append(anew, 1, [][]api.Value{{num(8)}})
	s.Rows[1] = [][]api.Value{{num(8)}}
	b, _, _ = schema.Load(over(anew))
	loaded(t, anew, b, s)
	if e != api.OK {
		t.Error(e)
	}
}

func TestAppendErrors(t *testing.T) { // P13.1
	if d, e := Append(nil, 0, nil); d != nil || e != api.ErrArg {
		t.Error("a nil disk", e)
	}
	empty, _ := disk.New(3)
	if d, e := Append(empty, 0, nil); d != nil || e != api.ErrForm {
		t.Error("no book", e)
	}
	d, b, _ := Load(50, sample())
	for _, x := range []struct {
		table int
		rows  [][]api.Value
	}{{2, nil}, {-1, nil}, {math.MaxInt, nil}, {1, [][]api.Value{{bit(1)}}}, {1, [][]api.Value{{}}}, {0, [][]api.Value{{num(1), text("a"), bit(2)}}}} {
		if got, e := Append(d, x.table, x.rows); got != nil || e != api.ErrArg {
			t.Error(x, e)
		}
	}
	var many [][]api.Value
	for range 3000 {
		many = append(many, []api.Value{num(1)})
	}
	if got, e := Append(d, 1, many); got != nil || e != api.ErrFull {
		t.Error("too many", e)
	}
	page, _ := d.Read(b.Tables[0].First)
	spoil := func(do func(b []byte)) *disk.Disk {
		x, c := slices.Clone(page), d.Copy()
		do(x)
		c.Write(b.Tables[0].First, x)
		return c
	}
	for name, x := range map[string]struct {
		d    *disk.Disk
		want api.Errno
	}{
		"a record that is no writing":  {spoil(func(b []byte) { b[511] = 9 }), api.ErrForm}, // the first record's last byte: a Bool's
		"a page out of form":           {spoil(func(b []byte) { b[100] = 9 }), api.ErrForm},
		"a next page that isn't there": {spoil(func(b []byte) { b[7] = 200 }), api.ErrPage},
	} {
		if got, e := Append(x.d, 77, nil); got != nil || e != x.want {
			t.Error(name, e)
		}
	}
}

func TestAnalyze(t *testing.T) { // P13.1
	rows := [][]api.Value{{num(1), {}}, {num(1)}, {{Kind: 9}, num(2)}, nil, {{Kind: 1, Text: "x", Int: 1}, {Kind: 200}}, {{Kind: 77}, {}}, {bit(1), bit(1), num(3)}}
	for _, x := range []struct {
		kinds           int
		distinct, nulls []int
	}{{0, nil, nil}, {-4, nil, nil}, {math.MinInt, nil, nil}, {1, []int{3}, []int{1}}, {2, []int{3, 3}, []int{1, 4}}, {4, []int{3, 3, 1, 0}, []int{1, 4, 6, 7}}} {
		d, n := Analyze(x.kinds, rows)
		if !slices.Equal(d, x.distinct) || !slices.Equal(n, x.nulls) {
			t.Error(x.kinds, d, n)
		}
	}
	if d, n := Analyze(2, nil); !slices.Equal(d, []int{0, 0}) || !slices.Equal(n, []int{0, 0}) {
		t.Error("no rows", d, n)
	}
	Analyze(math.MaxInt, rows)
}

func TestEntries(t *testing.T) { // P13.1
	rows := [][]api.Value{{num(2), text("a")}, {num(1), text("b")}, {num(2), text("a")}, {{}, text("c")}}
	rids := []api.Rid{{Page: 9}, {Page: 8, Slot: 1}, {Page: 3}, {Page: 1}}
	key := func(l ...api.Value) string { s, _ := keycode.Put(l); return s }
	l, e := Entries([]int{0}, rows, rids)
	want := []api.Entry{{Key: key(api.Value{}), Rid: rids[3]}, {Key: key(num(1)), Rid: rids[1]}, {Key: key(num(2)), Rid: rids[2]}, {Key: key(num(2)), Rid: rids[0]}}
	if e != api.OK || !slices.Equal(l, want) || !leaf.Rise(l) {
		t.Error(l, e)
	}
	if l, e := Entries([]int{1, 0}, rows[:1], rids[:1]); e != api.OK || l[0].Key != key(text("a"), num(2)) {
		t.Error(l, e)
	}
	if l, e := Entries([]int{0}, nil, nil); len(l) != 0 || e != api.OK {
		t.Error("no rows", e)
	}
	long := []api.Value{text(strings.Repeat("\x00", 48)), text(strings.Repeat("\x00", 48)), num(1)}
	if l, e := Entries([]int{0, 1}, [][]api.Value{long}, rids[:1]); e != api.OK || len(l[0].Key) != 198 {
		t.Error(e)
	}
	edge := [][]api.Value{{long[0], long[1], {}, {}, {}}}
	if l, e := Entries([]int{0, 1, 2, 3}, edge, rids[:1]); e != api.OK || len(l[0].Key) != 200 {
		t.Error("a key of 200 bytes", e)
	}
	if l, e := Entries([]int{0, 1, 2, 3, 4}, edge, rids[:1]); e != api.ErrLong || l != nil {
		t.Error("a key of 201 bytes", e)
	}
	for _, x := range []struct {
		columns []int
		rows    [][]api.Value
		want    api.Errno
	}{
		{[]int{0}, rows[:3], api.ErrArg}, {[]int{0}, nil, api.ErrArg}, {[]int{2}, rows, api.ErrArg}, {[]int{-1}, rows, api.ErrArg}, {[]int{0, math.MaxInt}, rows, api.ErrArg}, {[]int{0}, [][]api.Value{{num(1)}, {num(1)}, {num(1)}, nil}, api.ErrArg},
		{[]int{0}, [][]api.Value{{num(1)}, {num(1)}, {num(1)}, {bit(2)}}, api.ErrArg}, {[]int{0, 1, 2}, [][]api.Value{long, long, long, long}, api.ErrLong}, {[]int{0, 1, 2}, [][]api.Value{long, long, long, {num(1), num(1), bit(3)}}, api.ErrArg},
	} {
		if l, e := Entries(x.columns, x.rows, rids); l != nil || e != x.want {
			t.Error(x.columns, e, x.want)
		}
	}
}
