package scans

import (
	"bytes"
	"cmp"
	"math"
	"math/rand"
	"slices"
	"testing"

	"rowlock/api"
	"rowlock/audit"
	"rowlock/btree"
	"rowlock/disk"
	"rowlock/keycode"
	"rowlock/load"
	"rowlock/paths"
	"rowlock/pool"
	"rowlock/sarg"
	"rowlock/slots"
	"rowlock/split"
	"rowlock/term"
	"rowlock/val"
)

func num(n int64) api.Value   { return api.Value{Kind: api.Int, Int: n} }
func text(s string) api.Value { return api.Value{Kind: api.Text, Text: s} }
func bit(n int64) api.Value   { return api.Value{Kind: api.Bool, Int: n} }
func lit(v api.Value) api.Term {
	return api.Term{Kind: api.Literal, Value: v}
}
func field(table, column int) api.Term {
	return api.Term{Kind: api.Field, Table: table, Column: column}
}
func binary(op string, a, b api.Term) api.Term {
	return api.Term{Kind: api.Binary, Op: op, Args: []api.Term{a, b}}
}

// great is a number that is too great for some rows: the column 0 times 2^62.
func great(table int) api.Term {
	return binary(">", binary("*", field(table, 0), lit(num(1<<62))), lit(num(0)))
}

// maker makes random tables and blocks.
type maker struct{ *rand.Rand }

func (r maker) value(kind uint8) api.Value {
	if r.Intn(6) == 0 {
		return api.Value{}
	}
	return []api.Value{num(int64(r.Intn(9) - 4)), bit(int64(r.Intn(2))), text([]string{"", "a", "b", "a\x00"}[r.Intn(4)])}[kind-1]
}

// kinds are those of the table's columns.
func kinds() []uint8 { return []uint8{api.Int, api.Text, api.Bool, api.Int} }

// loaded is a disk with one table of so many rows (and a second one), and indexes on it, and the rows.
func (r maker) loaded(t *testing.T, rows int) (*pool.Pool, api.Book, [][]api.Value) {
	t.Helper()
	s := api.Script{Tables: []api.Table{{Name: "other", Columns: []api.Column{{Name: "x", Kind: api.Int}}}, {Name: "t"}}, Rows: [][][]api.Value{{{num(1)}}, nil}}
	for i, kind := range kinds() {
		s.Tables[1].Columns = append(s.Tables[1].Columns, api.Column{Name: string([]byte{byte('a' + i)}), Kind: kind})
	}
	for range rows {
		var row []api.Value
		for _, kind := range kinds() {
			row = append(row, r.value(kind))
		}
		s.Rows[1] = append(s.Rows[1], row)
	}
	s.Indexes = []api.Index{{Name: "other_x", Columns: []int{0}}}
	for i, columns := range [][]int{{0}, {1}, {0, 3}, {2, 1}, {3, 0}} {
		s.Indexes = append(s.Indexes, api.Index{Name: "x" + string([]byte{byte('a' + i)}), Table: 1, Columns: columns})
	}
	d, b, e := load.Load(400, s)
	if e != api.OK {
		t.Fatal(e)
	}
	p, _ := pool.New(d, 5)
	return p, b, s.Rows[1]
}

func (r maker) cond(table int) api.Term {
	c := r.Intn(4)
	constant := lit(r.value(kinds()[c]))
	switch r.Intn(9) {
	case 0:
		return api.Term{Kind: api.In, Args: []api.Term{field(table, c), constant, lit(r.value(kinds()[c])), lit(r.value(kinds()[c]))}}
	case 1:
		return api.Term{Kind: api.IsNull, Not: r.Intn(2) == 0, Args: []api.Term{field(table, c)}}
	case 2:
		return great(table)
	case 3:
		return binary("=", field(table, 0), field(table, 3))
	}
	return binary([]string{"=", "<", "<=", ">", ">="}[r.Intn(5)], field(table, c), constant)
}

// block is over the second table, and two more places.
func (r maker) block() (api.Block, int) {
	table := r.Intn(3)
	k := api.Block{Tables: []int{1, 1, 1}, Items: []api.Term{field(table, r.Intn(4))}}
	for range r.Intn(4) {
		k.Where = append(k.Where, r.cond(table))
	}
	k.Where = append(k.Where, binary("=", field(0, 3), field(1, 0)), lit(bit(0)), binary("<", field((table+1)%3, 0), lit(num(-9))))
	if r.Intn(3) > 0 {
		k.Where = k.Where[:len(k.Where)-3]
	}
	return k, table
}

// told are rows in the columns that a block needs, and whether they are wrong, in an order of their own.
func told(l []api.Row, needed []int) [][]api.Value {
	var all [][]api.Value
	for _, row := range l {
		wrong := bit(0)
		if row.Wrong {
			wrong = bit(1)
		}
		x := []api.Value{wrong}
		for _, c := range needed {
			x = append(x, row.Values[c])
		}
		all = append(all, x)
	}
	slices.SortFunc(all, func(a, b []api.Value) int { return val.CompareRows(a, b, nil) })
	return all
}

// plain are the rows that a table's local conditions leave, told the plain way.
func plain(k api.Block, table int, rows [][]api.Value) []api.Row {
	var conds []api.Term
	for _, c := range split.Split(k.Where, len(k.Tables)).Local[table] {
		conds = append(conds, k.Where[c])
	}
	var l []api.Row
	for _, row := range rows {
		over := make([][]api.Value, len(k.Tables))
		over[table] = row
		if truth := term.Holds(conds, over); truth == api.True || truth == api.Wrong {
			l = append(l, api.Row{Values: row, Wrong: truth == api.Wrong})
		}
	}
	return l
}

func TestPaths(t *testing.T) { // P26.1, P26.2
	r := maker{rand.New(rand.NewSource(26))}
	met := map[uint8]int{}
	wrong := 0
	for range 12 {
		p, b, rows := r.loaded(t, r.Intn(90))
		for range 60 {
			k, table := r.block()
			needed := split.Needed(k, table)
			want := plain(k, table, rows)
			for _, x := range paths.All(b, k, table) {
				got, e := Scan(p, b, k, table, x)
				if e != api.OK || !slices.EqualFunc(told(got, needed), told(want, needed), val.Same) {
					t.Fatal(x, e, len(got), len(want))
				}
				order(t, b, p, k, table, x, got)
				met[x.Kind]++
			}
			for _, row := range want {
				if row.Wrong {
					wrong++
				}
			}
		}
	}
	if len(met) != 4 || wrong == 0 {
		t.Error("not all were met", met, wrong)
	}
}

// order fails, unless rows come in the order of their path, each with the values of where it stands.
func order(t *testing.T, b api.Book, p *pool.Pool, k api.Block, table int, x api.Path, l []api.Row) {
	t.Helper()
	key := func(row api.Row) string {
		var part []api.Value
		for _, c := range b.Indexes[x.Index].Columns {
			part = append(part, row.Values[c])
		}
		s, _ := keycode.Put(part)
		return s
	}
	for i, row := range l {
		if x.Kind != api.OnlyPath {
			if at, e := audit.Row(p, b.Tables[1], row.Rid); e != api.OK || !val.Same(at, row.Values) {
				t.Fatal("a row stands elsewhere", row)
			}
		} else if len(row.Values) != 4 {
			t.Fatal("a row of entries", row)
		}
		for c := range row.Values {
			if x.Kind == api.OnlyPath && !slices.Contains(b.Indexes[x.Index].Columns, c) && row.Values[c] != (api.Value{}) {
				t.Fatal("a column that no key tells", row)
			}
		}
		if i == 0 {
			continue
		}
		byPlace := compare(l[i-1].Rid, row.Rid) < 0
		byKey := x.Kind == api.IndexPath || x.Kind == api.OnlyPath
		if !byKey && !byPlace || byKey && cmp.Compare(key(l[i-1]), key(row)) >= 0 && !(key(l[i-1]) == key(row) && byPlace) {
			t.Fatal("the order of a path", x.Kind, l[i-1], row)
		}
	}
}

func TestHeapOrder(t *testing.T) { // P26.1
	r := maker{rand.New(rand.NewSource(2))}
	p, b, rows := r.loaded(t, 120)
	l, e := Scan(p, b, api.Block{Tables: []int{1}}, 0, api.Path{Index: 99})
	if e != api.OK || len(l) != 120 {
		t.Fatal(e, len(l))
	}
	for i, row := range l {
		if !val.Same(row.Values, rows[i]) || row.Wrong {
			t.Error(i)
		}
	}
	l[0].Values[0] = text("changed")
	if again, _ := Scan(p, b, api.Block{Tables: []int{1}}, 0, api.Path{}); !val.Same(again[0].Values, rows[0]) {
		t.Error("rows are kept")
	}
	p, b, _ = r.loaded(t, 0)
	if l, e := Scan(p, b, api.Block{Tables: []int{1}}, 0, api.Path{}); len(l) != 0 || e != api.OK {
		t.Error("no rows", e)
	}
}

func TestProbe(t *testing.T) { // P26.1
	r := maker{rand.New(rand.NewSource(3))}
	p, b, rows := r.loaded(t, 80)
	k := api.Block{Tables: []int{0, 1}, Where: []api.Term{binary("<>", field(1, 3), lit(num(1)))}}
	for _, v := range []api.Value{num(-4), num(0), num(3), num(77)} {
		var fit [][]api.Value
		for _, row := range rows {
			if row[0] == v {
				fit = append(fit, row)
			}
		}
		for _, index := range []int{1, 3} {
			l, e := Probe(p, b, k, 1, index, v)
			if e != api.OK || !slices.EqualFunc(told(l, []int{0, 1, 2, 3}), told(plain(k, 1, fit), []int{0, 1, 2, 3}), val.Same) {
				t.Error(v, index, e, len(l))
			}
			span, _ := sarg.Probe(v)
			want, _ := Scan(p, b, k, 1, api.Path{Kind: api.IndexPath, Index: index, Ranges: []api.Range{span}})
			if !slices.EqualFunc(l, want, func(a, b api.Row) bool { return a.Rid == b.Rid && val.Same(a.Values, b.Values) }) {
				t.Error("not in the order of the index", v)
			}
		}
	}
	for _, v := range []api.Value{{}, {Kind: 9}, {Kind: 2, Int: 2}} {
		if l, e := Probe(p, b, k, 1, 1, v); l != nil || e != api.OK {
			t.Error(v, e)
		}
	}
	for _, x := range [][2]int{{1, 0}, {1, 6}, {1, -1}, {0, 1}, {2, 1}, {-1, 1}} {
		if l, e := Probe(p, b, k, x[0], x[1], api.Value{}); l != nil || e != api.ErrPlan {
			t.Error(x, e)
		}
	}
}

func TestPlanErrors(t *testing.T) { // P26.1
	r := maker{rand.New(rand.NewSource(4))}
	p, b, _ := r.loaded(t, 10)
	k := api.Block{Tables: []int{1, 0, 2, -1}}
	for i, x := range []struct {
		table int
		path  api.Path
	}{{4, api.Path{}}, {-1, api.Path{}}, {2, api.Path{}}, {3, api.Path{}}, {math.MaxInt, api.Path{}}, {0, api.Path{Kind: 4}}, {0, api.Path{Kind: 255}}, {0, api.Path{Kind: api.IndexPath, Index: 0}}, {0, api.Path{Kind: api.OnlyPath, Index: 6}}, {0, api.Path{Kind: api.IndexPath, Index: -1}}, {0, api.Path{Kind: api.BothPath, Index: 1, Other: 0}}, {0, api.Path{Kind: api.BothPath, Index: 0, Other: 1}}, {1, api.Path{Kind: api.OnlyPath, Index: 1}}} {
		for _, over := range []*pool.Pool{p, nil} {
			if l, e := Scan(over, b, k, x.table, x.path); l != nil || e != api.ErrPlan {
				t.Error(i, e)
			}
		}
	}
	many := api.Block{Tables: make([]int, 40)}
	if l, e := Scan(p, b, many, 30, api.Path{}); len(l) != 1 || e != api.OK {
		t.Error("table 30", e)
	}
	if _, e := Scan(p, b, many, 31, api.Path{}); e != api.ErrPlan {
		t.Error("table 31", e)
	}
	for kind := range uint8(4) {
		if l, e := Scan(nil, b, k, 0, api.Path{Kind: kind, Index: 1, Other: 2, Ranges: []api.Range{{}}, Also: []api.Range{{}}}); l != nil || e == api.OK {
			t.Error("a nil pool", kind)
		}
	}
}

func TestMuch(t *testing.T) { // P26.1
	s := api.Script{Tables: []api.Table{{Name: "t", Columns: []api.Column{{Name: "a", Kind: api.Int}}}}, Indexes: []api.Index{{Name: "x", Columns: []int{0}}, {Name: "y", Columns: []int{0}}}, Rows: [][][]api.Value{nil}}
	for i := range int64(20001) {
		s.Rows[0] = append(s.Rows[0], []api.Value{num(i)})
	}
	d, b, e := load.Load(4000, s)
	if e != api.OK {
		t.Fatal(e)
	}
	p, _ := pool.New(d, 9)
	all := []api.Range{{}}
	some := []api.Range{{Lo: "\x02\x80\x00\x00\x00\x00\x00\x00\x01"}} // all but the row of 0
	none := api.Block{Tables: []int{0}, Where: []api.Term{binary("<", field(0, 0), lit(num(0)))}}
	for kind := range uint8(4) {
		if l, e := Scan(p, b, none, 0, api.Path{Kind: kind, Other: 1, Ranges: all, Also: all}); l != nil || e != api.ErrMuch {
			t.Error(kind, e)
		}
		if l, e := Scan(p, b, none, 0, api.Path{Kind: kind, Other: 1, Ranges: some, Also: all}); len(l) != 0 || kind != api.HeapPath && e != api.OK {
			t.Error("20000 rows", kind, e)
		}
	}
	if l, e := Scan(p, b, api.Block{Tables: []int{0}}, 0, api.Path{Kind: api.OnlyPath, Ranges: some}); len(l) != 20000 || e != api.OK {
		t.Error("20000 rows", len(l), e)
	}
}

func TestFormErrors(t *testing.T) { // P26.1
	r := maker{rand.New(rand.NewSource(5))}
	_, b, _ := r.loaded(t, 40)
	k := api.Block{Tables: []int{1}}
	all := []api.Range{{}}
	fresh := func() (*disk.Disk, *pool.Pool) {
		d, _ := disk.New(9)
		page, _, _ := slots.Add(slots.New(0), []byte{4, 0, 0, 0, 0})
		page, _, _ = slots.Add(page, []byte{1, 0})
		d.Write(1, page)
		p, _ := pool.New(d, 3)
		return d, p
	}
	row, _ := keycode.Put([]api.Value{{}})
	for i, x := range []struct {
		l    []api.Entry
		want [3]api.Errno // of rows, entries alone, both
	}{
		{[]api.Entry{{Key: row, Rid: api.Rid{Page: 1}}}, [3]api.Errno{}},
		{[]api.Entry{{Key: row, Rid: api.Rid{Page: 1, Slot: 1}}}, [3]api.Errno{api.ErrForm, api.OK, api.ErrForm}},
		{[]api.Entry{{Key: row, Rid: api.Rid{Page: 1, Slot: 2}}}, [3]api.Errno{api.ErrNone, api.OK, api.ErrNone}},
		{[]api.Entry{{Key: row, Rid: api.Rid{Page: 77}}}, [3]api.Errno{api.ErrPage, api.OK, api.ErrPage}},
		{[]api.Entry{{Key: row, Rid: api.Rid{Page: 0}}}, [3]api.Errno{api.ErrForm, api.OK, api.ErrForm}},
		{[]api.Entry{{Key: "\x09", Rid: api.Rid{Page: 1}}}, [3]api.Errno{api.ErrForm, api.ErrForm, api.ErrForm}},
		{[]api.Entry{{Key: "\x03\x01", Rid: api.Rid{Page: 1}}}, [3]api.Errno{api.ErrForm, api.ErrForm, api.ErrForm}},
		{[]api.Entry{{Key: row + row, Rid: api.Rid{Page: 1}}}, [3]api.Errno{api.ErrForm, api.ErrForm, api.ErrForm}},
		{[]api.Entry{{Key: "", Rid: api.Rid{Page: 1}}}, [3]api.Errno{api.ErrForm, api.ErrForm, api.ErrForm}},
		{[]api.Entry{{Key: "", Rid: api.Rid{Page: 1}}, {Key: row, Rid: api.Rid{Page: 1}}}, [3]api.Errno{api.ErrForm, api.ErrForm, api.ErrForm}},
		{[]api.Entry{{Key: row, Rid: api.Rid{Page: 0}}, {Key: row, Rid: api.Rid{Page: 1}}}, [3]api.Errno{api.ErrForm, api.OK, api.ErrForm}},
	} {
		d, p := fresh()
		root, _ := btree.Build(d, x.l)
		c := b
		c.Indexes = slices.Clone(b.Indexes)
		c.Indexes[1].Root, c.Indexes[2] = root, c.Indexes[1]
		c.Indexes[2].Root = root
		for n, path := range []api.Path{{Kind: api.IndexPath, Index: 1, Ranges: all}, {Kind: api.OnlyPath, Index: 1, Ranges: all}, {Kind: api.BothPath, Index: 1, Other: 2, Ranges: all, Also: all}} {
			if l, e := Scan(p, c, k, 0, path); e != x.want[n] || e != api.OK && l != nil {
				t.Error(i, n, e, x.want[n])
			}
		}
		c.Indexes[1].Columns = []int{4}
		if _, e := Scan(p, c, k, 0, api.Path{Kind: api.OnlyPath, Index: 1, Ranges: all}); e != api.ErrForm {
			t.Error("a column that isn't there", e)
		}
		c.Tables = slices.Clone(b.Tables)
		c.Tables[1].First = 1
		if l, e := Scan(p, c, k, 0, api.Path{}); e != api.ErrForm || l != nil {
			t.Error("a record that is no row", e)
		}
		c.Tables[1].First, c.Indexes[1].Root = 88, 88
		if _, e := Scan(p, c, k, 0, api.Path{}); e != api.ErrPage {
			t.Error("no heap", e)
		}
		if _, e := Scan(p, c, k, 0, api.Path{Kind: api.OnlyPath, Index: 1, Ranges: all}); e != api.ErrPage {
			t.Error("no tree", e)
		}
	}
}

func TestAnyDisk(t *testing.T) { // P26.1: whatever stands on the disk, it ends, and nothing is written.
	r := maker{rand.New(rand.NewSource(6))}
	p, b, _ := r.loaded(t, 60)
	d, _ := disk.New(p.Pages())
	for i := range uint32(p.Pages()) {
		page, _ := p.Get(i)
		d.Write(i, page)
	}
	image := d.Image()
	for range 600 {
		x := slices.Clone(image)
		for range 1 + r.Intn(5) {
			x[r.Intn(40)*512+r.Intn([]int{8, 60, 512}[r.Intn(3)])] = byte(r.Intn(256))
		}
		spoilt, _ := disk.Load(x)
		over, _ := pool.New(spoilt, 1+r.Intn(5))
		k, table := r.block()
		for _, path := range paths.All(b, k, table) {
			if l, e := Scan(over, b, k, table, path); e != api.OK && l != nil {
				t.Error("rows beside an error")
			}
		}
		Probe(over, b, k, table, 1+r.Intn(5), r.value(api.Int))
		if !bytes.Equal(x, spoilt.Image()) {
			t.Error("something was written")
		}
	}
}
