package plan

import (
	"math"
	"slices"
	"testing"

	"rowlock/api"
	"rowlock/paths"
)

func field(table, column int) api.Term {
	return api.Term{Kind: api.Field, Table: table, Column: column}
}
func binary(op string, a, b api.Term) api.Term {
	return api.Term{Kind: api.Binary, Op: op, Args: []api.Term{a, b}}
}
func num(n int64) api.Term {
	return api.Term{Kind: api.Literal, Value: api.Value{Kind: api.Int, Int: n}}
}

// book has tables a (no index), b (indexes on 0; on 1, 0), c (index on 0).
func book() api.Book {
	columns := []api.Column{{Kind: api.Int}, {Kind: api.Int}, {Kind: api.Int}}
	return api.Book{
		Tables:  []api.Table{{Name: "a", Columns: columns}, {Name: "b", Columns: columns}, {Name: "c", Columns: columns}},
		Indexes: []api.Index{{Table: 1, Columns: []int{0}}, {Table: 1, Columns: []int{1, 0}}, {Table: 2, Columns: []int{0}}},
	}
}

// block is over the three tables; each is needed whole, so that there are no entries alone.
func block(l ...api.Term) api.Block {
	k := api.Block{Tables: []int{0, 1, 2}, Where: l}
	for t := range 3 {
		k.Items = append(k.Items, field(t, 0), field(t, 1), field(t, 2))
	}
	return k
}

// told are steps in short: table, method, path's kind and index, the step's index, the join.
func told(l []api.Step) [][6]int {
	var k [][6]int
	for _, s := range l {
		k = append(k, [6]int{s.Table, int(s.Method), int(s.Path.Kind), s.Path.Index, s.Index, s.Join})
	}
	return k
}

func TestNext(t *testing.T) { // P23.1
	join := block(binary("=", field(1, 2), num(5)), binary("=", field(1, 1), field(0, 2)), binary("=", field(2, 0), field(1, 0)))
	const loop, probe, merge = api.LoopStep, api.ProbeStep, api.MergeStep
	for i, x := range []struct {
		k    api.Block
		set  uint32
		want [][6]int
	}{
		{block(), 0, [][6]int{{0}, {1}, {1, 0, 1}, {1, 0, 1, 1}, {2}, {2, 0, 1, 2}}},
		{block(), 1, [][6]int{{1, loop}, {1, loop, 1}, {1, loop, 1, 1}, {2, loop}, {2, loop, 1, 2}}},
		{join, 1, [][6]int{{1, loop}, {1, loop, 1}, {1, loop, 1, 1}, {1, probe, 0, 0, 1, 0}, {1, merge}, {1, merge, 1}, {1, merge, 1, 1}, {2, loop}, {2, loop, 1, 2}}},
		{join, 2, [][6]int{{0, loop}, {0, merge}, {2, loop}, {2, loop, 1, 2}, {2, probe, 0, 0, 2, 1}, {2, merge, 0, 0, 0, 1}, {2, merge, 1, 2, 0, 1}}},
		{join, 5, [][6]int{{1, loop}, {1, loop, 1}, {1, loop, 1, 1}, {1, probe, 0, 0, 1, 0}, {1, merge}, {1, merge, 1}, {1, merge, 1, 1}, {1, probe, 0, 0, 0, 1}, {1, merge, 0, 0, 0, 1}, {1, merge, 1, 0, 0, 1}, {1, merge, 1, 1, 0, 1}}},
		{join, 7, nil}, {join, math.MaxUint32, nil}, {block(), 8 | 6, [][6]int{{0, loop}}}, {api.Block{}, 0, nil}, {api.Block{Tables: []int{9, -1}}, 0, nil}, {api.Block{Tables: []int{3, 0}}, 0, [][6]int{{1}}},
	} {
		if got := told(Next(book(), x.k, x.set)); !slices.Equal(got, x.want) {
			t.Error(i, got)
		}
	}
	l := Next(book(), block(binary("=", field(1, 0), num(5)), binary("=", field(1, 0), field(0, 0))), 1)
	for _, s := range l {
		if s.Method != probe && !paths.Has(paths.All(book(), block(binary("=", field(1, 0), num(5))), s.Table), s.Path) {
			t.Error("a step by no path", s)
		}
	}
	none := book()
	none.Indexes[0].Columns = nil
	for _, s := range Next(none, join, 1) {
		if s.Method == probe && s.Index == 0 {
			t.Error("a probe of an index without columns")
		}
	}
}

// TestOwnLists: what is written into one step, or plan, changes no other.
func TestOwnLists(t *testing.T) { // P23.1
	k := block(binary("=", field(1, 0), num(5)), binary("=", field(1, 1), num(6)), binary("=", field(1, 0), field(0, 0)))
	spoil := func(s *api.Step) {
		for i := range s.Path.Ranges {
			s.Path.Ranges[i].Lo = "changed"
		}
		for i := range s.Path.Also {
			s.Path.Also[i].Lo = "changed"
		}
		for i := range s.Path.Conds {
			s.Path.Conds[i] = -9
		}
		for i := range s.Path.More {
			s.Path.More[i] = -9
		}
	}
	whole := func(s api.Step) bool {
		return s.Method == api.ProbeStep || paths.Has(paths.All(book(), k, s.Table), s.Path)
	}
	l, both := Next(book(), k, 1), 0
	for i := range l {
		if !whole(l[i]) {
			t.Fatal("steps share their lists", i)
		}
		if l[i].Path.Kind == api.BothPath {
			both++
		}
		spoil(&l[i])
	}
	if both != 2 {
		t.Error("not all were met", both)
	}
	plans, _ := All(book(), k, 300)
	for i := range plans {
		for n := range plans[i].Steps {
			if !whole(plans[i].Steps[n]) {
				t.Fatal("plans share their lists", i)
			}
			spoil(&plans[i].Steps[n])
		}
	}
}

// step is one by the heap.
func step(table, method, join int) api.Step {
	return api.Step{Table: table, Method: uint8(method), Join: join}
}

func by(s api.Step, kind, index int) api.Step {
	s.Path = api.Path{Kind: uint8(kind), Index: index}
	return s
}

func TestOrder(t *testing.T) { // P23.1
	k := block(binary("=", field(1, 2), num(5)), binary("=", field(1, 1), field(0, 2)), binary("=", field(2, 0), field(1, 0)))
	first, loop, probe := by(step(1, api.FirstStep, 0), api.IndexPath, 1), step(0, api.LoopStep, 0), step(0, api.ProbeStep, 1)
	for i, x := range []struct {
		l             []api.Step
		table, column int
		ok            bool
	}{
		{nil, 0, 0, false}, {[]api.Step{step(1, api.FirstStep, 0)}, 0, 0, false}, {[]api.Step{first}, 1, 1, true}, {[]api.Step{by(step(2, api.FirstStep, 0), api.OnlyPath, 2)}, 2, 0, true}, {[]api.Step{by(step(1, api.FirstStep, 0), api.BothPath, 0)}, 0, 0, false}, {[]api.Step{first, loop}, 1, 1, true}, {[]api.Step{first, probe, by(loop, api.IndexPath, 2)}, 1, 1, true},
		{[]api.Step{step(0, api.FirstStep, 0), step(1, api.MergeStep, 0)}, 0, 2, true}, {[]api.Step{first, step(0, api.MergeStep, 0)}, 1, 1, true}, {[]api.Step{first, step(2, api.MergeStep, 1), loop}, 1, 0, true}, {[]api.Step{first, step(2, api.MergeStep, 0)}, 0, 0, false}, {[]api.Step{first, step(2, api.MergeStep, 2)}, 0, 0, false}, {[]api.Step{first, step(2, api.MergeStep, -1)}, 0, 0, false}, {[]api.Step{first, step(2, api.MergeStep, 99)}, 0, 0, false}, {[]api.Step{first, step(2, api.MergeStep, math.MinInt)}, 0, 0, false}, {[]api.Step{first, step(-1, api.MergeStep, 0)}, 0, 0, false},
		{[]api.Step{loop}, 0, 0, false}, {[]api.Step{first, step(0, 9, 0)}, 0, 0, false}, {[]api.Step{by(step(1, api.FirstStep, 0), api.IndexPath, 77)}, 0, 0, false},
	} {
		table, column, ok := Order(book(), k, x.l)
		if table != x.table || column != x.column || ok != x.ok {
			t.Error(i, table, column, ok)
		}
	}
}

func TestNeeds(t *testing.T) { // P23.1
	sorted := []api.Step{by(step(1, api.FirstStep, 0), api.IndexPath, 1)} // by column 1 of table 1: item 5
	for i, x := range []struct {
		do   func(k *api.Block)
		l    []api.Step
		want bool
	}{
		{func(k *api.Block) { k.Order = nil; k.Grouped = true }, nil, false}, {func(k *api.Block) {}, sorted, false}, {func(k *api.Block) {}, nil, true}, {func(k *api.Block) { k.Order[0].Item = 4 }, sorted, true}, {func(k *api.Block) { k.Order[0].Item = 2 }, sorted, true}, {func(k *api.Block) { k.Order[0].Down = true }, sorted, true}, {func(k *api.Block) { k.Grouped = true }, sorted, true}, {func(k *api.Block) { k.Distinct = true }, sorted, true}, {func(k *api.Block) { k.Order = append(k.Order, k.Order[0]) }, sorted, true},
		{func(k *api.Block) { k.Order[0].Item = 0 }, sorted, true}, {func(k *api.Block) { k.Order[0].Item = 10 }, sorted, true}, {func(k *api.Block) { k.Order[0].Item = math.MinInt }, sorted, true}, {func(k *api.Block) { k.Items[4] = binary("+", field(1, 1), num(0)) }, sorted, true}, {func(k *api.Block) { k.Items[4].Of = "b" }, sorted, false},
		{func(k *api.Block) { k.Items, k.Order[0].Item = append(k.Items, field(1, 1)), 10 }, sorted, false}, {func(k *api.Block) { k.Limit = 3 }, append(sorted, step(0, api.LoopStep, 0)), false},
	} {
		k := block()
		k.Order = []api.Key{{Item: 5}}
		x.do(&k)
		if got := Needs(book(), k, x.l); got != x.want {
			t.Error(i, got)
		}
	}
}

func TestAll(t *testing.T) { // P23.1
	plain := api.Block{Tables: []int{0, 0}}
	if l, whole := All(book(), plain, 99); len(l) != 2 || !whole {
		t.Error("two tables without indexes", len(l))
	}
	k := block(binary("=", field(1, 0), field(0, 0)), binary("=", field(2, 0), field(1, 0)))
	k.Order = []api.Key{{Item: 4}}
	l, whole := All(book(), k, math.MaxInt)
	if !whole || len(l) < 100 {
		t.Fatal(len(l), whole)
	}
	want := 0 // plans, counted by their steps
	var count func(set uint32, come int)
	count = func(set uint32, come int) {
		if come == 3 {
			want++
			return
		}
		for _, s := range Next(book(), k, set) {
			count(set|1<<s.Table, come+1)
		}
	}
	count(0, 0)
	if len(l) != want {
		t.Error(len(l), want)
	}
	sorts := 0
	for i, p := range l {
		if !May(book(), k, p) || p.Sort != Needs(book(), k, p.Steps) || i > 0 && Same(l[i-1], p) {
			t.Error("plan", i, told(p.Steps))
		}
		if p.Sort {
			sorts++
		}
	}
	if sorts == 0 || sorts == len(l) {
		t.Error("all alike", sorts)
	}
	for _, most := range []int{math.MinInt, -1, 0, 1, 7, len(l) - 1, len(l), len(l) + 1} {
		got, whole := All(book(), k, most)
		if whole != (most >= len(l)) || !slices.EqualFunc(got, l[:min(len(l), max(most, 0))], Same) {
			t.Error(most, len(got), whole)
		}
	}
}

func TestNone(t *testing.T) { // P23.1
	for _, tables := range [][]int{{0, 1, 2, 0, 1, 2, 0, 1, 2, 0, 1, 3}, {-1}, {3}, make([]int, 33), make([]int, 100)} {
		if l, whole := All(book(), api.Block{Tables: tables}, 5); len(l) != 0 || !whole {
			t.Error(len(tables), len(l), whole)
		}
	}
	for _, n := range []int{12, 32} {
		if l, whole := All(book(), api.Block{Tables: make([]int, n)}, 3); len(l) != 3 || whole || len(l[2].Steps) != n {
			t.Error("many tables", n, len(l))
		}
	}
}

func TestMay(t *testing.T) { // P23.1
	k := block(binary("=", field(1, 0), field(0, 0)), binary("=", field(2, 0), field(1, 1)))
	k.Order = []api.Key{{Item: 1}}
	heap := func(sort bool, l ...api.Step) api.Plan { return api.Plan{Steps: l, Sort: sort} }
	whole := []api.Range{{}}
	index := api.Path{Kind: api.IndexPath, Ranges: whole}
	for i, x := range []struct {
		p    api.Plan
		want bool
	}{
		{heap(true, step(0, 0, 0), step(1, 1, 0), step(2, 1, 0)), true}, {heap(false, step(0, 0, 0), step(1, 1, 0), step(2, 1, 0)), false}, {heap(true, step(2, 0, 0), step(1, 3, 1), step(0, 3, 0)), true}, {heap(true, step(0, 0, 0), api.Step{Table: 1, Method: 2}, api.Step{Table: 2, Method: 2, Index: 2, Join: 1}), true}, {heap(true, step(0, 0, 0), api.Step{Table: 1, Method: 1, Path: index}, step(2, 1, 0)), true},
		{heap(false, step(0, 0, 0), step(1, 3, 0), step(2, 1, 0)), true}, {heap(true, step(0, 0, 0), step(1, 3, 0), step(2, 1, 0)), true},
		{heap(true, step(0, 0, 0), step(1, 1, 0)), false}, {heap(true, step(0, 0, 0), step(1, 1, 0), step(1, 1, 0)), false}, {heap(true, step(0, 0, 0), step(1, 1, 0), step(2, 1, 0), step(2, 1, 0)), false}, {heap(true, step(0, 1, 0), step(1, 1, 0), step(2, 1, 0)), false}, {heap(true, step(0, 0, 0), step(1, 0, 0), step(2, 1, 0)), false}, {heap(true), false}, {heap(true, step(0, 0, 0), step(2, 3, 1), step(1, 1, 0)), false}, {heap(true, step(0, 0, 0), step(1, 1, 7), step(2, 1, 0)), false}, {heap(true, step(0, 0, 0), step(1, 9, 0), step(2, 1, 0)), false}, {heap(true, step(-1, 0, 0), step(1, 1, 0), step(2, 1, 0)), false}, {heap(true, step(0, 0, 0), step(40, 1, 0), step(2, 1, 0)), false},
		{heap(true, step(0, 0, 0), api.Step{Table: 1, Method: 1, Index: 1}, step(2, 1, 0)), false}, {heap(true, step(0, 0, 0), api.Step{Table: 1, Method: 1, Path: api.Path{Kind: api.IndexPath}}, step(2, 1, 0)), false}, {heap(true, step(0, 0, 0), api.Step{Table: 1, Method: 2, Index: 1}, step(2, 1, 0)), false}, {heap(true, step(0, 0, 0), api.Step{Table: 1, Method: 2, Path: index}, step(2, 1, 0)), false}, {heap(true, step(0, 0, 0), api.Step{Table: 1, Method: 2, Join: 1}, step(2, 1, 0)), false},
	} {
		if got := May(book(), k, x.p); got != x.want {
			t.Error(i, got)
		}
	}
	// A join's number is that among the joins: conditions that are none don't count.
	k.Where = []api.Term{binary(">", field(0, 1), num(1)), k.Where[0], binary("<", field(0, 1), field(1, 1)), k.Where[1], num(7)}
	for n := -1; n < 6; n++ {
		first := heap(true, step(0, 0, 0), api.Step{Table: 1, Method: api.ProbeStep, Join: n}, step(2, 1, 0))
		second := heap(true, step(0, 0, 0), step(1, 1, 0), step(2, api.MergeStep, n))
		if May(book(), k, first) != (n == 0) || May(book(), k, second) != (n == 1) {
			t.Error("join", n)
		}
	}
	k.Order = []api.Key{{Item: 4}}
	sorted := []api.Step{{Table: 1, Path: index}, step(0, 1, 0), step(2, 1, 0)}
	if !May(book(), k, heap(false, sorted...)) || !May(book(), k, heap(true, sorted...)) {
		t.Error("a sort that isn't needed may be")
	}
}

func TestSame(t *testing.T) { // P23.1
	base := func() api.Plan {
		return api.Plan{Steps: []api.Step{{Table: 1, Method: 2, Path: api.Path{Conds: []int{1}}, Index: 3, Join: 4}, {}}, Sort: true}
	}
	if !Same(base(), base()) || !Same(api.Plan{}, api.Plan{Steps: []api.Step{}}) {
		t.Error("same")
	}
	for i, do := range []func(p *api.Plan){func(p *api.Plan) { p.Sort = false }, func(p *api.Plan) { p.Steps = p.Steps[:1] }, func(p *api.Plan) { p.Steps[0].Table = 0 }, func(p *api.Plan) { p.Steps[0].Method = 0 }, func(p *api.Plan) { p.Steps[0].Path.Conds[0] = 0 }, func(p *api.Plan) { p.Steps[0].Index = 0 }, func(p *api.Plan) { p.Steps[0].Join = 0 }} {
		p := base()
		do(&p)
		if Same(p, base()) || Same(base(), p) || i > 1 && SameStep(p.Steps[0], base().Steps[0]) {
			t.Error(i)
		}
	}
}
