package dynamic

import (
	"math"
	"math/rand"
	"testing"

	"rowlock/api"
	"rowlock/cost"
	"rowlock/plan"
)

func field(table, column int) api.Term {
	return api.Term{Kind: api.Field, Table: table, Column: column}
}
func binary(op string, a, b api.Term) api.Term {
	return api.Term{Kind: api.Binary, Op: op, Args: []api.Term{a, b}}
}
func num(n int64) api.Term {
	return api.Term{Kind: api.Literal, Value: api.Value{Kind: api.Int, Int: n}}
}

// maker makes random books and blocks.
type maker struct{ *rand.Rand }

// number is one that a book may have, or, if wild, any.
func (r maker) number(wild bool) int {
	if wild && r.Intn(3) == 0 {
		return []int{math.MinInt64, -1, 0, math.MaxInt32, math.MaxInt64 / 2, math.MaxInt64}[r.Intn(6)]
	}
	return r.Intn(1 << r.Intn(12))
}

func (r maker) book(wild bool) api.Book {
	var b api.Book
	for range 4 {
		t := api.Table{Rows: r.number(wild), Pages: r.number(wild)}
		for range 3 {
			t.Columns = append(t.Columns, api.Column{Kind: api.Int, Distinct: r.number(wild), Nulls: r.number(wild)})
		}
		b.Tables = append(b.Tables, t)
	}
	for range r.Intn(7) {
		x := api.Index{Table: r.Intn(4), Columns: r.Perm(3)[:1+r.Intn(2)], Leaves: r.number(wild), High: r.Intn(4)}
		for range x.Columns {
			x.Distinct = append(x.Distinct, r.number(wild))
		}
		b.Indexes = append(b.Indexes, x)
	}
	return b
}

func (r maker) block(tables int) api.Block {
	k := api.Block{Limit: -1}
	for range tables {
		k.Tables = append(k.Tables, r.Intn(4))
	}
	any := func() api.Term { return field(r.Intn(tables), r.Intn(3)) }
	for range 1 + r.Intn(3) {
		k.Items = append(k.Items, any())
	}
	for range r.Intn(2 * tables) {
		x := binary([]string{"=", "=", "<", ">"}[r.Intn(4)], any(), num(3))
		if r.Intn(2) == 0 {
			x = binary("=", any(), any())
		}
		k.Where = append(k.Where, x)
	}
	for range r.Intn(3) {
		k.Order = append(k.Order, api.Key{Item: 1 + r.Intn(len(k.Items)), Down: r.Intn(5) == 0})
	}
	k.Distinct = r.Intn(8) == 0
	return k
}

func TestBest(t *testing.T) { // P25.1, P25.2
	r := maker{rand.New(rand.NewSource(25))}
	sorted, unsorted := 0, 0
	for i := range 600 {
		b := r.book(i%2 == 0)
		k := r.block(1 + r.Intn(4))
		p, n, e := Choose(b, k)
		if e != api.OK || !plan.May(b, k, p) || p.Sort != plan.Needs(b, k, p.Steps) || n != cost.Plan(b, k, p) {
			t.Fatal(i, e, n, cost.Plan(b, k, p))
		}
		if len(k.Order) > 0 && p.Sort {
			sorted++
		} else if len(k.Order) > 0 {
			unsorted++
		}
		all, whole := plan.All(b, k, 20000)
		for _, other := range all {
			if c := cost.Plan(b, k, other); c < n {
				t.Fatal(i, "a plan costs less:", c, n, whole)
			}
		}
		g, m, e := Greedy(b, k)
		if e != api.OK || !plan.May(b, k, g) || g.Sort != plan.Needs(b, k, g.Steps) || m != cost.Plan(b, k, g) || m < n {
			t.Fatal(i, "greedy", e, m, n)
		}
		var set uint32
		var by uint64
		for at, s := range g.Steps {
			c := cost.Step(b, k, g.Steps[:at], set, by, s)
			for _, other := range plan.Next(b, k, set) {
				if cost.Step(b, k, g.Steps[:at], set, by, other) < c {
					t.Fatal(i, "not a step that costs least", at)
				}
			}
			set, by = set|1<<s.Table, c
		}
	}
	if sorted == 0 || unsorted == 0 {
		t.Error("all alike", sorted, unsorted)
	}
}

// merged are books and blocks of which merges, probes by several indexes of a column, and their paths are worth weighing.
func (r maker) merged() (api.Book, api.Block) {
	var b api.Book
	for range 3 {
		t := api.Table{Rows: 1 + r.Intn(1<<(1+r.Intn(12))), Pages: 1 + r.Intn(60)}
		for range 2 {
			t.Columns = append(t.Columns, api.Column{Kind: api.Int, Distinct: 1 + r.Intn(t.Rows)})
		}
		b.Tables = append(b.Tables, t)
	}
	for range 3 + r.Intn(6) {
		x := api.Index{Table: r.Intn(3), Columns: [][]int{{0}, {0, 1}, {1}}[r.Intn(3)], Leaves: 1 + r.Intn(40), High: 1 + r.Intn(3), Distinct: []int{1 + r.Intn(4000), 1}}
		x.Distinct = x.Distinct[:len(x.Columns)]
		b.Indexes = append(b.Indexes, x)
	}
	k := api.Block{Tables: []int{0, 1, 2}[:2+r.Intn(2)], Items: []api.Term{field(0, 0), field(1, 0)}}
	for i := range len(k.Tables) - 1 {
		k.Where = append(k.Where, binary("=", field(i, r.Intn(2)), field(i+1, r.Intn(2))))
	}
	if r.Intn(2) == 0 {
		k.Where = append(k.Where, binary("<", field(r.Intn(2), 0), num(4)))
	}
	k.Order = []api.Key{{Item: 1 + r.Intn(2)}}[:r.Intn(2)]
	return b, k
}

func TestMerged(t *testing.T) { // P25.2
	r := maker{rand.New(rand.NewSource(28))}
	met := map[uint8]int{}
	for i := range 1200 {
		b, k := r.merged()
		p, n, e := Choose(b, k)
		all, _ := plan.All(b, k, 6000)
		for _, other := range all {
			if c := cost.Plan(b, k, other); e != api.OK || c < n {
				t.Fatal(i, e, "a plan costs less:", c, n, other)
			}
		}
		for _, s := range p.Steps {
			met[s.Method]++
		}
	}
	if met[api.MergeStep] < 100 || met[api.ProbeStep] < 100 {
		t.Error("all alike", met)
	}
}

func TestExample(t *testing.T) { // P25.1
	b := api.Book{Tables: []api.Table{{Rows: 1, Pages: 1}, {Rows: 100, Pages: 100}}}
	for _, tables := range [][]int{{0, 1}, {1, 0}} {
		p, n, e := Choose(b, api.Block{Tables: tables})
		if e != api.OK || n != 101 || tables[p.Steps[0].Table] != 0 || len(p.Steps) != 2 {
			t.Error(tables, p, n, e)
		}
	}
}

// TestJoinNumber: the steps of both plans tell their joins by the numbers among the joins, not among all conditions.
func TestJoinNumber(t *testing.T) { // P25.1
	columns := []api.Column{{Kind: api.Int, Distinct: 9}, {Kind: api.Int, Distinct: 100000}}
	b := api.Book{
		Tables:  []api.Table{{Rows: 9, Pages: 1, Columns: columns}, {Rows: 100000, Pages: 5000, Columns: columns}},
		Indexes: []api.Index{{Table: 1, Columns: []int{1}, Leaves: 900, High: 3, Distinct: []int{100000}}},
	}
	k := api.Block{Tables: []int{0, 1, 0}, Items: []api.Term{field(0, 0), field(1, 0)}, Where: []api.Term{
		binary("<", field(0, 0), num(5)), binary("=", field(2, 0), field(0, 1)), num(1), binary("<", field(0, 0), field(2, 1)), binary("=", field(0, 1), field(1, 1)),
	}}
	for name, do := range map[string]func(api.Book, api.Block) (api.Plan, uint64, api.Errno){"choose": Choose, "greedy": Greedy} {
		p, n, e := do(b, k)
		if e != api.OK || !plan.May(b, k, p) || n != cost.Plan(b, k, p) {
			t.Error(name, e, p)
		}
		probes := 0
		for _, s := range p.Steps {
			if s.Method == api.ProbeStep {
				probes++
				if s.Join != 1 {
					t.Error(name, "join", s.Join)
				}
			}
		}
		if probes != 1 {
			t.Error(name, "no probe", p)
		}
	}
}

// TestGreedyIsNotBest: the cheapest first step may make the next ones dear.
func TestGreedyIsNotBest(t *testing.T) { // P25.1
	b := api.Book{Tables: []api.Table{{Rows: 100, Pages: 1}, {Rows: 1, Pages: 2}}}
	k := api.Block{Tables: []int{0, 1}}
	_, n, _ := Choose(b, k)
	_, m, _ := Greedy(b, k)
	if n != 3 || m != 201 {
		t.Error(n, m)
	}
}

func TestErrors(t *testing.T) { // P25.1
	b := api.Book{Tables: []api.Table{{Rows: 5, Pages: 2}}}
	for _, x := range []struct {
		tables []int
		want   api.Errno
	}{{nil, api.ErrPlan}, {[]int{1}, api.ErrPlan}, {[]int{0, -1}, api.ErrPlan}, {[]int{0, math.MaxInt}, api.ErrPlan}, {make([]int, 13), api.ErrMany}, {append(make([]int, 12), 9), api.ErrMany}, {make([]int, 40), api.ErrMany}, {make([]int, 12), api.OK}, {[]int{0}, api.OK}} {
		for name, do := range map[string]func(api.Book, api.Block) (api.Plan, uint64, api.Errno){"choose": Choose, "greedy": Greedy} {
			p, n, e := do(b, api.Block{Tables: x.tables})
			if e != x.want || e != api.OK && (n != 0 || !plan.Same(p, api.Plan{})) || e == api.OK && len(p.Steps) != len(x.tables) {
				t.Error(name, len(x.tables), e)
			}
		}
	}
}

// TestOften: the same question has the same answer, each time.
func TestOften(t *testing.T) { // P25.1
	r := maker{rand.New(rand.NewSource(26))}
	for range 20 {
		b, k := r.book(false), r.block(4)
		first, n, _ := Choose(b, k)
		for range 5 {
			if p, m, _ := Choose(b, k); !plan.Same(p, first) || m != n {
				t.Fatal("another plan")
			}
		}
	}
}

// TestMany: twelve tables in a row, and each with each.
func TestMany(t *testing.T) { // P25.2
	r := maker{rand.New(rand.NewSource(27))}
	b := r.book(false)
	for _, star := range []bool{true, false} {
		k := api.Block{Items: []api.Term{field(0, 0)}, Order: []api.Key{{Item: 1}}}
		for i := range 12 {
			k.Tables = append(k.Tables, i%4)
			k.Where = append(k.Where, binary("<", field(i, 2), num(3)))
			for n := range i {
				if n == i-1 || star && n == 0 {
					k.Where = append(k.Where, binary("=", field(i, i%2), field(n, 0)))
				}
			}
		}
		p, n, e := Choose(b, k)
		g, m, _ := Greedy(b, k)
		if e != api.OK || !plan.May(b, k, p) || !plan.May(b, k, g) || n > m || n != cost.Plan(b, k, p) {
			t.Error(star, e, n, m)
		}
	}
}
