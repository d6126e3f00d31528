package engine

import (
	"bytes"
	"math/rand"
	"slices"
	"strings"
	"testing"

	"rowlock/api"
	"rowlock/cost"
	"rowlock/disk"
	"rowlock/load"
	"rowlock/plan"
	"rowlock/pool"
	"rowlock/schema"
	"rowlock/val"
)

// over is an engine over a disk's image, and a pool of a size.
func over(image []byte, size int) (*Engine, *pool.Pool) {
	d, _ := disk.Load(image)
	p, _ := pool.New(d, size)
	return New(p), p
}

func TestRightAnswers(t *testing.T) { // P29.2, P29.3, T1, T2, T3, T6
	r := maker{rand.New(rand.NewSource(29))}
	errors, rows := 0, 0
	for range 60 {
		s := r.script(8)
		b, image := loaded(t, s)
		x, _ := over(image, 1+r.Intn(9))
		small, _ := over(image, 1)
		for range 25 {
			q := r.query(3)
			k, want := denoted(t, b, s.Rows, q)
			a, e := x.Query(q)
			if !agree(k, a, e, want) {
				t.Fatalf("%s: %v, %v; not %v", q, a, e, want)
			}
			if want.e != api.OK {
				errors++
			}
			rows += len(a.Rows)
			if other, f := small.Query(q); f != e || !slices.EqualFunc(other.Rows, a.Rows, val.Same) {
				t.Fatal("another pool's size", q)
			}
			if bound, f := x.Bind(q); f != want.e && want.e != api.ErrCalc || f == api.OK && len(bound.Items) != len(k.Items) {
				t.Fatal("bind", q, f)
			}
			if len(k.Tables) == 0 {
				continue
			}
			best, n, f := x.Plan(q)
			all, _ := plan.All(b, k, 300)
			if f != api.OK || n != cost.Plan(b, k, best) || !plan.May(b, k, best) {
				t.Fatal("plan", q, f)
			}
			for range 6 {
				p := all[r.Intn(len(all))]
				if a, e := x.With(q, p); !agree(k, a, e, want) {
					t.Fatalf("%s by %v: %v, %v; not %v", q, p, a, e, want)
				}
				if cost.Plan(b, k, p) < n {
					t.Fatal("a plan that costs less", q)
				}
				p.Sort = true
				if a, e := x.With(q, p); !agree(k, a, e, want) {
					t.Fatal("sorted once more", q, e)
				}
			}
		}
	}
	if errors < 20 || rows < 500 {
		t.Error("all alike", errors, rows)
	}
}

// cities is the disk of the document's examples.
func cities(t *testing.T, indexes ...api.Index) (*Engine, *pool.Pool, api.Book) {
	t.Helper()
	s := api.Script{
		Tables:  []api.Table{{Name: "city", Columns: []api.Column{{Name: "id", Kind: api.Int}, {Name: "land", Kind: api.Int}, {Name: "name", Kind: api.Text}}}, {Name: "land", Columns: []api.Column{{Name: "id", Kind: api.Int}, {Name: "name", Kind: api.Text}}}},
		Indexes: indexes,
		Rows:    [][][]api.Value{nil, {{num(2), text("two")}, {num(3), text("three")}}},
	}
	for i := range int64(300) {
		s.Rows[0] = append(s.Rows[0], []api.Value{num(i), num(i % 4), text(strings.Repeat("n", int(i%40)))})
	}
	b, image := loaded(t, s)
	x, p := over(image, 50)
	return x, p, b
}

func index(table int, columns ...int) api.Index {
	return api.Index{Name: "i" + string([]byte{byte('a' + columns[0]), byte('a' + len(columns)), byte('a' + table)}), Table: table, Columns: columns}
}

func TestExamples(t *testing.T) { // P29.2: the ten examples of the whole
	first := func(x *Engine, q string) api.Step {
		p, _, e := x.Plan(q)
		if e != api.OK {
			t.Fatal(q, e)
		}
		return p.Steps[0]
	}
	with, pages, b := cities(t, index(0, 0), index(0, 1, 0))
	without, _, _ := cities(t)
	if s := first(with, "SELECT name FROM city WHERE id = 3"); s.Path.Kind != api.IndexPath || s.Path.Index != 0 || len(s.Path.Ranges) != 1 {
		t.Error(1, s)
	}
	pages.Reset()
	if a, e := with.Query("SELECT name FROM city WHERE id = 3"); e != api.OK || len(a.Rows) != 1 || a.Rows[0][0] != text("nnn") || pages.Reads() > uint64(b.Indexes[0].High+1) {
		t.Error(1, a, e, pages.Reads())
	}
	if s := first(without, "SELECT name FROM city WHERE id = 3"); s.Path.Kind != api.HeapPath {
		t.Error(2, s)
	}
	if s := first(with, "SELECT id FROM city WHERE id > 290"); s.Path.Kind != api.OnlyPath {
		t.Error(3, s)
	}
	pages.Reset()
	if a, e := with.Query("SELECT id FROM city"); e != api.OK || len(a.Rows) != 300 || pages.Reads() > uint64(b.Tables[0].Pages) {
		t.Error(3, e, pages.Reads(), b.Tables[0].Pages)
	}
	if s := first(with, "SELECT id FROM city WHERE land = 2 AND id > 3"); s.Path.Index != 1 || len(s.Path.Ranges) != 1 || len(s.Path.Conds) != 2 {
		t.Error(4, s)
	}
	if s := first(with, "SELECT name FROM city WHERE id IN (1, 5)"); len(s.Path.Ranges) != 2 {
		t.Error(5, s)
	}
	if a, e := with.Query("SELECT id FROM city WHERE id IN (1, 5)"); e != api.OK || len(a.Rows) != 2 {
		t.Error(5, a, e)
	}
	p, _, _ := with.Plan("SELECT city.name FROM city, land WHERE city.id = land.id")
	if p.Steps[0].Table != 1 || p.Steps[1].Method != api.ProbeStep {
		t.Error(7, p)
	}
	p, _, _ = with.Plan("SELECT id FROM city ORDER BY id")
	if p.Sort || p.Steps[0].Path.Kind != api.OnlyPath {
		t.Error(8, p)
	}
	if a, e := with.Query("SELECT id FROM city ORDER BY id LIMIT 2"); e != api.OK || len(a.Rows) != 2 || a.Rows[1][0] != num(1) {
		t.Error(8, a, e)
	}
	if a, e := with.Query("SELECT id FROM city WHERE 1 = 2 AND id * 9223372036854775807 > 0"); e != api.OK || len(a.Rows) != 0 {
		t.Error(9, a, e)
	}
	if a, e := with.Query("SELECT id FROM city WHERE id * 9223372036854775807 > 0"); e != api.ErrCalc || a.Rows != nil {
		t.Error(10, a, e)
	}
	if a, e := with.Query("SELECT 1 FROM land"); e != api.OK || len(a.Rows) != 2 || !slices.Equal(a.Names, []string{""}) {
		t.Error("one for each row", a, e)
	}
}

func TestBothExample(t *testing.T) { // P29.3: rows that are in both
	x, _, b := cities(t, index(0, 0), index(0, 1))
	q := "SELECT name FROM city WHERE land = 1 AND id < 9"
	k, _ := x.Bind(q)
	all, _ := plan.All(b, k, 99)
	both := 0
	for _, p := range all {
		a, e := x.With(q, p)
		if e != api.OK || len(a.Rows) != 2 {
			t.Error(p, e)
		}
		if p.Steps[0].Path.Kind == api.BothPath {
			both++
		}
	}
	if both != 1 {
		t.Error(both)
	}
}

func TestErrors(t *testing.T) { // P29.1
	x, _, _ := cities(t)
	for q, want := range map[string]api.Errno{
		"": api.ErrSyntax, "SELECT": api.ErrSyntax, strings.Repeat(" ", 5000): api.ErrLong, "SELECT 9223372036854775808 FROM city": api.ErrRange, "SELECT id FROM town": api.ErrName, "SELECT id FROM city, land": api.ErrSame, "SELECT id FROM city WHERE name": api.ErrType, "SELECT id, COUNT(*) FROM city": api.ErrGroup,
		"SELECT 1 FROM land" + strings.Repeat(", land", 12): api.ErrSame, "SELECT id + 9223372036854775807 FROM city": api.ErrCalc, "SELECT a.id FROM city a, city b": api.ErrMuch,
		"SELECT 1 FROM land a, land b, land c, land d, land e, land f, land g, land h, land i, land j, land k, land l, land m": api.ErrMany,
	} {
		if a, e := x.Query(q); e != want || a.Names != nil || a.Rows != nil {
			t.Errorf("%.50s: %v", q, e)
		}
		atPlan := want
		if want == api.ErrCalc || want == api.ErrMuch {
			atPlan = api.OK
		}
		if p, n, e := x.Plan(q); e != atPlan || e != api.OK && (n != 0 || len(p.Steps) > 0) {
			t.Errorf("plan, %.50s: %v", q, e)
		}
	}
}

func TestWith(t *testing.T) { // P29.1
	x, _, _ := cities(t, index(0, 0))
	heap := []api.Step{{Table: 0}}
	for i, c := range []struct {
		q    string
		p    api.Plan
		want api.Errno
	}{
		{"SELECT id FROM city ORDER BY id", api.Plan{Steps: heap}, api.ErrPlan}, {"SELECT id FROM city ORDER BY id", api.Plan{Steps: heap, Sort: true}, api.OK}, {"SELECT id FROM city", api.Plan{Steps: heap, Sort: true}, api.OK}, {"SELECT id FROM city", api.Plan{}, api.ErrPlan}, {"SELECT id FROM city", api.Plan{Steps: append(heap, heap...)}, api.ErrPlan}, {"SELECT id FROM city", api.Plan{Steps: []api.Step{{Table: 3}}}, api.ErrPlan},
		{"SELECT id FROM", api.Plan{}, api.ErrSyntax}, {"SELECT id FROM town", api.Plan{}, api.ErrName}, {"SELECT a.id FROM city a, city b ORDER BY 1", api.Plan{Steps: []api.Step{{}, {Table: 1, Method: api.LoopStep}}}, api.ErrMuch}, {"SELECT id + 9223372036854775807 FROM city ORDER BY 1", api.Plan{Steps: heap}, api.ErrPlan}, {"SELECT id + 9223372036854775807 FROM city ORDER BY 1", api.Plan{Steps: heap, Sort: true}, api.ErrCalc},
	} {
		if a, e := x.With(c.q, c.p); e != c.want || e != api.OK && a.Rows != nil {
			t.Error(i, e)
		}
	}
}

func TestCounts(t *testing.T) { // P29.1
	x, p, _ := cities(t)
	if x.Asked() != 0 || x.Reads() != 0 {
		t.Error("a new engine")
	}
	x.Query("SELECT 1 FROM land")
	x.Query("nothing")
	x.Plan("SELECT 1 FROM land")
	x.With("nothing", api.Plan{})
	x.Bind("SELECT 1 FROM land")
	x.Book()
	if x.Asked() != 4 {
		t.Error("asked", x.Asked())
	}
	if x.Reads() == 0 || x.Reads() != p.Reads() {
		t.Error("reads", x.Reads(), p.Reads())
	}
}

func TestBook(t *testing.T) { // P29.1
	x, p, want := cities(t, index(0, 0))
	if p.Reads() != 0 {
		t.Error("the book is read ahead of being needed")
	}
	if _, e := x.Bind("nothing"); e != api.ErrSyntax || p.Reads() != 0 {
		t.Error("the book is read for what is no query", e)
	}
	b, e := x.Book()
	if e != api.OK || !schema.Same(b, want) {
		t.Error(e)
	}
	b.Tables[0].Columns[0].Name, b.Indexes[0].Columns[0], b.Indexes[0].Distinct[0] = "changed", 2, -1
	b.Tables[1].Name = "changed"
	reads, hits := p.Reads(), p.Hits()
	if again, e := x.Book(); e != api.OK || !schema.Same(again, want) || p.Reads() != reads || p.Hits() != hits {
		t.Error("the book isn't kept", e)
	}
}

func TestNoBook(t *testing.T) { // P29.1
	d, _ := disk.New(3)
	p, _ := pool.New(d, 1)
	for name, x := range map[string]*Engine{"nil": nil, "a nil pool": New(nil), "a new disk": New(p)} {
		a, e := x.Query("SELECT 1 FROM t")
		k, f := x.Bind("SELECT 1 FROM t")
		_, n, g := x.Plan("SELECT 1 FROM t")
		_, h := x.With("SELECT 1 FROM t", api.Plan{})
		b, i := x.Book()
		if e != api.ErrCatalog || f != api.ErrCatalog || g != api.ErrCatalog || h != api.ErrCatalog || i != api.ErrCatalog {
			t.Error(name, e, f, g, h, i)
		}
		if a.Rows != nil || len(k.Items) > 0 || n != 0 || !schema.Same(b, api.Book{}) {
			t.Error(name, "something beside an error")
		}
		_, e = x.Bind("nothing")
		if want := api.ErrSyntax; x != nil && e != want || x == nil && e != api.ErrCatalog {
			t.Error(name, e)
		}
		if asked := x.Asked(); x == nil && asked != 0 || x != nil && asked != 3 {
			t.Error(name, asked)
		}
		if reads := x.Reads(); reads != 0 && name != "a new disk" || reads > 1 {
			t.Error(name, reads)
		}
	}
}

func TestAppended(t *testing.T) { // P29.2, T4: loaded anew, with more rows, all is answered as told.
	r := maker{rand.New(rand.NewSource(30))}
	s := r.script(6)
	d, _, _ := load.Load(200, s)
	more := [][]api.Value{{num(5), {}, text("k"), bit(1)}, {{}, num(1), {}, {}}}
	anew, e := load.Append(d, 1, more)
	if e != api.OK {
		t.Fatal(e)
	}
	s.Rows[1] = append(s.Rows[1], more...)
	p, _ := pool.New(anew, 4)
	x := New(p)
	b, _ := x.Book()
	for range 60 {
		q := r.query(2)
		k, want := denoted(t, b, s.Rows, q)
		if a, e := x.Query(q); !agree(k, a, e, want) {
			t.Fatal(q, a, e, want)
		}
	}
}

func TestAnyDisk(t *testing.T) { // P29.1, T5: whatever stands on the disk, it ends, and nothing is written.
	r := maker{rand.New(rand.NewSource(31))}
	_, image := loaded(t, r.script(40))
	answers := 0
	for range 500 {
		b := slices.Clone(image)
		for range 1 + r.Intn(4) {
			b[r.Intn(24)*512+r.Intn([]int{8, 60, 512}[r.Intn(3)])] = byte(r.Intn(256))
		}
		if r.Intn(5) == 0 {
			copy(b[r.Intn(20)*512:][:512], b[r.Intn(20)*512:])
		}
		d, _ := disk.Load(b)
		p, _ := pool.New(d, 1+r.Intn(5))
		x := New(p)
		for range 4 {
			q := r.query(2)
			a, e := x.Query(q)
			if e != api.OK && (a.Rows != nil || a.Names != nil) {
				t.Fatal("rows beside an error", q)
			}
			if e == api.OK {
				answers++
			}
			best, _, e := x.Plan(q)
			if e == api.OK {
				x.With(q, best)
			}
		}
		if !bytes.Equal(b, d.Image()) {
			t.Fatal("something was written")
		}
	}
	if answers == 0 {
		t.Error("no answers")
	}
}
