package cost

import (
	"math"
	"math/rand"
	"testing"

	"rowlock/api"
	"rowlock/plan"
	"rowlock/stats"
)

func field(table, column int) api.Term {
	return api.Term{Kind: api.Field, Table: table, Column: column}
}
func binary(op string, a, b api.Term) api.Term {
	return api.Term{Kind: api.Binary, Op: op, Args: []api.Term{a, b}}
}
func num(n int64) api.Term {
	return api.Term{Kind: api.Literal, Value: api.Value{Kind: api.Int, Int: n}}
}

// book has a of 100 rows on 7 pages, with indexes on 0 and on 1; b of 1000 rows on 50 pages, with one on 0; and c of nothing, with one.
func book() api.Book {
	return api.Book{
		Tables: []api.Table{
			{Rows: 100, Pages: 7, Columns: []api.Column{{Kind: api.Int, Distinct: 20}, {Kind: api.Int, Distinct: 50}}},
			{Rows: 1000, Pages: 50, Columns: []api.Column{{Kind: api.Int, Distinct: 200}, {Kind: api.Int, Distinct: 10}}},
			{Columns: []api.Column{{Kind: api.Int}}},
		},
		Indexes: []api.Index{
			{Table: 0, Columns: []int{0}, Leaves: 10, High: 2, Distinct: []int{20}},
			{Table: 0, Columns: []int{1}, Leaves: 4, High: 1, Distinct: []int{50}},
			{Table: 1, Columns: []int{0}, Leaves: 60, High: 3, Distinct: []int{300}},
			{Table: 2, Columns: []int{0}, Leaves: 1, High: 1, Distinct: []int{0}},
		},
	}
}

// block is over a, b, c: a.0 = 5; a.1 < 9; a.1 = b.0, which is join 0, though condition 2.
func block() api.Block {
	return api.Block{Tables: []int{0, 1, 2, 3, -1}, Where: []api.Term{binary("=", field(0, 0), num(5)), binary("<", field(0, 1), num(9)), binary("=", field(0, 1), field(1, 0))}}
}

func index(kind, n int, conds ...int) api.Path {
	return api.Path{Kind: uint8(kind), Index: n, Conds: conds}
}

func TestPath(t *testing.T) { // P24.1
	for i, x := range []struct {
		table int
		p     api.Path
		want  uint64
	}{
		{0, api.Path{}, 7}, {1, api.Path{}, 50}, {2, api.Path{}, 1}, {0, api.Path{Index: 99}, 7},
		{0, index(api.OnlyPath, 0), 2 + 10 + 1}, {0, index(api.OnlyPath, 0, 0), 2 + 0 + 1}, {0, index(api.OnlyPath, 0, 1), 2 + 3 + 1}, {0, index(api.IndexPath, 0), 2 + 10 + 1 + 100}, {0, index(api.IndexPath, 0, 0), 2 + 0 + 1 + 5}, {0, index(api.IndexPath, 1, 1), 1 + 1 + 1 + 33}, {0, index(api.IndexPath, 0, 0, 1), 2 + 0 + 1 + 1}, {0, index(api.IndexPath, 0, 99), 2 + 10 + 1 + 100},
		{2, index(api.OnlyPath, 3), 1 + 0 + 1}, {2, index(api.IndexPath, 3), 1 + 0 + 1 + 1}, {1, index(api.IndexPath, 2), 3 + 60 + 1 + 1000},
		{0, api.Path{Kind: api.BothPath, Index: 0, Conds: []int{0}, Other: 1, More: []int{1}}, (2 + 0 + 1) + (1 + 1 + 1) + 1}, {0, api.Path{Kind: api.BothPath, Index: 0, Conds: []int{1}, Other: 1, More: []int{1}}, (2 + 3 + 1) + (1 + 1 + 1) + 33},
		{0, index(4, 0), never}, {0, index(api.IndexPath, 2), never}, {0, index(api.OnlyPath, -1), never}, {0, index(api.OnlyPath, 4), never}, {0, api.Path{Kind: api.BothPath, Index: 0, Other: 2}, never}, {0, api.Path{Kind: api.BothPath, Index: 2, Other: 0}, never}, {3, api.Path{}, never}, {4, api.Path{}, never}, {5, api.Path{}, never}, {-1, api.Path{}, never}, {math.MaxInt, api.Path{}, never},
	} {
		if got := Path(book(), block(), x.table, x.p); got != x.want {
			t.Error(i, got, x.want)
		}
	}
	k := api.Block{Tables: make([]int, 40)}
	if Path(book(), k, 30, api.Path{}) != 7 || Path(book(), k, 31, api.Path{}) != never {
		t.Error("of a block's tables 31 are there")
	}
	b := book()
	b.Tables[0].Rows = 1
	if got := Path(b, block(), 0, index(api.OnlyPath, 0)); got != 2+10+1 {
		t.Error("one row", got)
	}
	b.Tables[0].Pages, b.Indexes[0].High, b.Indexes[0].Leaves = -4, -5, -6
	if Path(b, block(), 0, api.Path{}) != 1 || Path(b, block(), 0, index(api.OnlyPath, 0)) != 1 {
		t.Error("numbers below 0", Path(b, block(), 0, index(api.OnlyPath, 0)))
	}
}

func TestSort(t *testing.T) { // P24.1
	for n, want := range map[uint64]uint64{0: 2, 1: 2, 7: 2, 8: 4, 15: 4, 16: 6, 100: 26, math.MaxUint64: 2 + 2*(math.MaxUint64/8)} {
		if got := Sort(n); got != want {
			t.Error(n, got)
		}
	}
}

func TestStep(t *testing.T) { // P24.1
	heap := func(table, method, join int) api.Step {
		return api.Step{Table: table, Method: uint8(method), Join: join}
	}
	ordered := []api.Step{{Table: 0, Path: index(api.IndexPath, 1)}} // by a.1
	merge := api.Step{Table: 1, Method: api.MergeStep, Path: index(api.IndexPath, 2)}
	const rows = 1 // of a: 100 by 20 by 3, rounded down each time
	for i, x := range []struct {
		l    []api.Step
		set  uint32
		by   uint64
		s    api.Step
		want uint64
	}{
		{nil, 0, 3, heap(0, api.FirstStep, 0), 10}, {nil, 0, 0, api.Step{Table: 0, Path: index(api.IndexPath, 0, 0)}, 8}, {nil, 2, 5, heap(0, api.LoopStep, 0), 5 + 1000*7}, {nil, 1, 5, heap(1, api.LoopStep, 0), 5 + rows*50}, {nil, 3, 0, heap(2, api.LoopStep, 0), 8},
		{nil, 1, 5, api.Step{Table: 1, Method: api.ProbeStep, Index: 2}, 5 + rows*(3+1+3)}, {nil, 2, 5, api.Step{Table: 0, Method: api.ProbeStep, Index: 1}, 5 + 1000*(1+1+2)},
		{nil, 1, 5, heap(1, api.MergeStep, 0), 5 + 50 + 2 + 252}, {ordered, 1, 5, heap(1, api.MergeStep, 0), 5 + 50 + 252}, {nil, 1, 5, merge, 5 + 1064 + 2}, {ordered, 1, 5, merge, 5 + 1064}, {nil, 2, 5, heap(0, api.MergeStep, 0), 5 + 7 + 252 + 2}, {nil, 2, 5, api.Step{Table: 0, Method: api.MergeStep, Path: index(api.IndexPath, 0)}, 5 + 113 + 252 + 2}, {nil, 2, 5, api.Step{Table: 0, Method: api.MergeStep, Path: index(api.OnlyPath, 1)}, 5 + 6 + 252}, {[]api.Step{{Table: 1, Path: index(api.OnlyPath, 2)}}, 2, 5, heap(0, api.MergeStep, 0), 5 + 7 + 2}, {[]api.Step{{Table: 0, Path: index(api.OnlyPath, 0)}}, 1, 5, merge, 5 + 1064 + 2}, {[]api.Step{{Table: 2, Path: index(api.OnlyPath, 3)}}, 2, 5, heap(0, api.MergeStep, 0), 5 + 7 + 252 + 2},
		{nil, 0, 7, heap(3, 0, 0), never}, {nil, 0, 7, heap(5, 0, 0), never}, {nil, 0, 7, heap(-1, 0, 0), never}, {nil, 1, 7, heap(1, 4, 0), never}, {nil, 1, 7, heap(1, api.MergeStep, 1), never}, {nil, 1, 7, heap(1, api.MergeStep, 2), never}, {nil, 1, 7, heap(1, api.MergeStep, -1), never}, {nil, 1, 7, heap(2, api.MergeStep, 0), never}, {nil, 1, 7, api.Step{Table: 1, Method: api.ProbeStep, Index: 1}, never}, {nil, 1, 7, api.Step{Table: 1, Method: api.ProbeStep, Index: 2, Join: 1}, never}, {nil, 1, 7, api.Step{Table: 1, Method: api.ProbeStep, Index: 2, Join: 2}, never}, {nil, 1, 7, api.Step{Table: 1, Method: api.ProbeStep, Index: 2, Join: math.MinInt}, never}, {nil, 1, 7, api.Step{Table: 1, Method: api.ProbeStep, Index: 9}, never}, {nil, 1, 7, api.Step{Table: 1, Method: api.LoopStep, Path: index(api.IndexPath, 0)}, never},
		{nil, 0, never, heap(0, 0, 0), never}, {nil, 1, never - 3, heap(1, 1, 0), never},
	} {
		if got := Step(book(), block(), x.l, x.set, x.by, x.s); got != x.want {
			t.Error(i, got, x.want)
		}
	}
	b := book()
	b.Indexes[2].Distinct = nil
	if got := Step(b, block(), nil, 1, 0, api.Step{Table: 1, Method: api.ProbeStep, Index: 2}); got != 3+1+1000 {
		t.Error("no Distinct", got)
	}
	b.Indexes[2].Distinct = []int{0}
	if got := Step(b, block(), nil, 1, 0, api.Step{Table: 1, Method: api.ProbeStep, Index: 2}); got != 3+1+1000 {
		t.Error("Distinct 0", got)
	}
}

// TestJoinNumber: a step's join is told by its number among the joins, whatever conditions stand between them.
func TestJoinNumber(t *testing.T) { // P24.1
	k := block()
	k.Where = []api.Term{num(1), binary("=", field(1, 1), field(0, 0)), k.Where[0], k.Where[1], k.Where[2]}
	ahead := []api.Step{{Table: 0, Path: index(api.OnlyPath, 0)}} // by a.0
	rows, own := stats.Rows(book(), k, 1), stats.Rows(book(), k, 2)
	for i, want := range []uint64{50 + Sort(own), 50 + Sort(rows) + Sort(own), never, never, never} {
		if got := Step(book(), k, ahead, 1, 0, api.Step{Table: 1, Method: api.MergeStep, Join: i}); got != want {
			t.Error("merge", i, got, want)
		}
		n := Step(book(), k, ahead, 1, 0, api.Step{Table: 1, Method: api.ProbeStep, Index: 2, Join: i})
		if (n == never) != (want == never) {
			t.Error("probe", i, n)
		}
	}
}

func TestPlan(t *testing.T) { // P24.1
	l := []api.Step{{Table: 1}, {Table: 0, Method: api.ProbeStep, Index: 1}, {Table: 2, Method: api.LoopStep}}
	rows := stats.Rows(book(), block(), 3)
	want := 50 + 1000*4 + rows*1
	if got := Plan(book(), block(), api.Plan{Steps: l}); got != want {
		t.Error(got, want)
	}
	if got := Plan(book(), block(), api.Plan{Steps: l, Sort: true}); got != want+Sort(1) {
		t.Error(got)
	}
	if got := Plan(book(), block(), api.Plan{Steps: l[:1], Sort: true}); got != 50+252 {
		t.Error(got)
	}
	if Plan(book(), block(), api.Plan{}) != 0 || Plan(book(), block(), api.Plan{Steps: []api.Step{{Table: -1}, {Table: 99}}, Sort: true}) != never {
		t.Error("nothing")
	}
}

// TestNeverCheaper: a step costs at least what was by now; the more that was, the more.
func TestNeverCheaper(t *testing.T) { // P24.2
	r := rand.New(rand.NewSource(24))
	numbers := []int{math.MinInt64, -1, 0, 1, 2, 9, 1000, math.MaxInt32, math.MaxInt64}
	pick := func() int { return numbers[r.Intn(len(numbers))] }
	bys := []uint64{0, 1, 50, 1 << 40, math.MaxUint64 - 1, math.MaxUint64}
	for range 200 {
		b := book()
		for i := range b.Tables {
			b.Tables[i].Rows, b.Tables[i].Pages = pick(), pick()
			for c := range b.Tables[i].Columns {
				b.Tables[i].Columns[c].Distinct = pick()
			}
		}
		for i := range b.Indexes {
			b.Indexes[i].Leaves, b.Indexes[i].High, b.Indexes[i].Distinct[0] = pick(), pick(), pick()
		}
		k := block()
		k.Tables = k.Tables[:3]
		plans, _ := plan.All(b, k, 60)
		for _, p := range plans {
			var set uint32
			for i, s := range p.Steps {
				var before uint64
				for _, by := range bys {
					n := Step(b, k, p.Steps[:i], set, by, s)
					if n < by || n < before {
						t.Fatal("cheaper", by, n, before)
					}
					before = n
				}
				set |= 1 << s.Table
			}
			if p.Sort = true; Plan(b, k, p) < Plan(b, k, api.Plan{Steps: p.Steps}) {
				t.Fatal("a sort makes it cheaper")
			}
		}
	}
}
