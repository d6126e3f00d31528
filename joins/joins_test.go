package joins

import (
	"bytes"
	"math"
	"math/rand"
	"slices"
	"testing"

	"rowlock/api"
	"rowlock/disk"
	"rowlock/load"
	"rowlock/plan"
	"rowlock/pool"
	"rowlock/split"
	"rowlock/term"
	"rowlock/val"
)

func num(n int64) api.Value { return api.Value{Kind: api.Int, Int: n} }
func lit(v api.Value) api.Term {
	return api.Term{Kind: api.Literal, Value: v}
}
func field(table, column int) api.Term {
	return api.Term{Kind: api.Field, Table: table, Column: column}
}
func binary(op string, a, b api.Term) api.Term {
	return api.Term{Kind: api.Binary, Op: op, Args: []api.Term{a, b}}
}

// base is a loaded disk, and what was loaded.
type base struct {
	disk *disk.Disk
	pool *pool.Pool
	book api.Book
	rows [][][]api.Value
}

func loaded(t *testing.T, s api.Script) base {
	t.Helper()
	d, b, e := load.Load(900, s)
	if e != api.OK {
		t.Fatal(e)
	}
	p, _ := pool.New(d, 6)
	return base{d, p, b, s.Rows}
}

// maker makes random disks and blocks: tables of three columns of small numbers, or NULL.
type maker struct{ *rand.Rand }

func (r maker) row() []api.Value {
	var row []api.Value
	for range 3 {
		v := num(int64(r.Intn(4)))
		if r.Intn(5) == 0 {
			v = api.Value{}
		}
		row = append(row, v)
	}
	return row
}

func (r maker) script(most int) api.Script {
	var s api.Script
	for i := range 3 {
		t := api.Table{Name: string([]byte{byte('a' + i)})}
		for c := range 3 {
			t.Columns = append(t.Columns, api.Column{Name: string([]byte{byte('x' + c)}), Kind: api.Int})
		}
		var rows [][]api.Value
		for range r.Intn(most) {
			rows = append(rows, r.row())
		}
		s.Tables, s.Rows = append(s.Tables, t), append(s.Rows, rows)
	}
	for i := range 1 + r.Intn(5) {
		s.Indexes = append(s.Indexes, api.Index{Name: "x" + string([]byte{byte('a' + i)}), Table: r.Intn(3), Columns: r.Perm(3)[:1+r.Intn(2)]})
	}
	return s
}

func (r maker) block(tables int) api.Block {
	k := api.Block{Limit: -1}
	for range tables {
		k.Tables = append(k.Tables, r.Intn(3))
	}
	any := func() api.Term { return field(r.Intn(tables), r.Intn(3)) }
	k.Items = []api.Term{any(), any()}
	for range r.Intn(5) {
		x := binary([]string{"=", "<", ">="}[r.Intn(3)], any(), lit(num(int64(r.Intn(4)))))
		switch r.Intn(6) {
		case 0:
			x = binary(">", binary("*", binary("+", any(), any()), lit(num(1<<62))), lit(num(0)))
		case 1, 2, 3:
			x = binary("=", any(), any())
		case 4:
			x = binary([]string{"<", "OR"}[r.Intn(2)], binary("+", any(), lit(num(0))), any())
			if x.Op == "OR" {
				x.Args = []api.Term{binary("=", any(), any()), binary("<>", any(), any())}
			}
		}
		k.Where = append(k.Where, x)
	}
	if r.Intn(8) == 0 {
		k.Where = append(k.Where, lit(api.Value{Kind: api.Bool, Int: int64(r.Intn(2))}))
	}
	return k
}

// told are combos in the columns that a block needs, and whether they are wrong, in an order of their own.
func told(k api.Block, l []api.Combo) [][]api.Value {
	var all [][]api.Value
	for _, c := range l {
		row := []api.Value{{}}
		if c.Wrong {
			row[0] = num(1)
		}
		for t := range k.Tables {
			for _, col := range split.Needed(k, t) {
				row = append(row, c.Rows[t][col])
			}
		}
		all = append(all, row)
	}
	slices.SortFunc(all, func(a, b []api.Value) int { return val.CompareRows(a, b, nil) })
	return all
}

// plain are the combos of a block, told the plain way: all rows put together, and asked.
func plain(k api.Block, rows [][][]api.Value) []api.Combo {
	l := []api.Combo{{}}
	for _, t := range k.Tables {
		var more []api.Combo
		for _, c := range l {
			for _, row := range rows[t] {
				more = append(more, api.Combo{Rows: append(slices.Clone(c.Rows), row)})
			}
		}
		l = more
	}
	var left []api.Combo
	for _, c := range l {
		if truth := term.Holds(k.Where, c.Rows); truth == api.True || truth == api.Wrong {
			c.Wrong = truth == api.Wrong
			left = append(left, c)
		}
	}
	return left
}

func TestAllPlans(t *testing.T) { // P27.1, P27.2, P27.3
	r := maker{rand.New(rand.NewSource(27))}
	met, wrong, right := map[uint8]int{}, 0, 0
	for range 30 {
		x := loaded(t, r.script(7))
		for range 12 {
			k := r.block(1 + r.Intn(3))
			want := told(k, plain(k, x.rows))
			for _, w := range want {
				if w[0] == num(1) {
					wrong++
				} else {
					right++
				}
			}
			all, _ := plan.All(x.book, k, 4000)
			for range 60 {
				p := all[r.Intn(len(all))]
				got, e := Run(x.pool, x.book, k, p)
				if e != api.OK || !slices.EqualFunc(told(k, got), want, val.Same) {
					t.Fatal(e, len(got), len(want), p)
				}
				ordered(t, x.book, k, p, got)
				for _, s := range p.Steps {
					met[s.Method]++
				}
			}
		}
	}
	if len(met) != 4 || wrong < 100 || right < 100 {
		t.Error("not all were met", met, wrong, right)
	}
}

// ordered fails, unless combos come in the order that the plan delivers, if there is one.
func ordered(t *testing.T, b api.Book, k api.Block, p api.Plan, l []api.Combo) {
	t.Helper()
	table, column, ok := plan.Order(b, k, p.Steps)
	for i := range l {
		if ok && i > 0 && val.Compare(l[i-1].Rows[table][column], l[i].Rows[table][column]) > 0 {
			t.Fatal("the order", p)
		}
	}
}

// two is a disk of a (1, 2, 1, NULL) and b (2 10, 1 11, NULL 12, 1 13), with indexes on the first column of both.
func two(t *testing.T) (base, api.Block) {
	column := func(name string) api.Column { return api.Column{Name: name, Kind: api.Int} }
	s := api.Script{
		Tables:  []api.Table{{Name: "a", Columns: []api.Column{column("x")}}, {Name: "b", Columns: []api.Column{column("x"), column("y")}}},
		Indexes: []api.Index{{Name: "ax", Columns: []int{0}}, {Name: "bx", Table: 1, Columns: []int{0}}},
		Rows:    [][][]api.Value{{{num(1)}, {num(2)}, {num(1)}, {{}}}, {{num(2), num(10)}, {num(1), num(11)}, {{}, num(12)}, {num(1), num(13)}}},
	}
	k := api.Block{Tables: []int{0, 1}, Items: []api.Term{field(0, 0), field(1, 1)}, Where: []api.Term{binary("=", field(0, 0), field(1, 0))}}
	return loaded(t, s), k
}

// last are the last values of each combo's rows.
func last(l []api.Combo) [][2]int64 {
	var n [][2]int64
	for _, c := range l {
		n = append(n, [2]int64{c.Rows[0][0].Int, c.Rows[1][1].Int})
	}
	return n
}

func TestOrders(t *testing.T) { // P27.1: what comes is in the order of the combos, then of the rows.
	x, k := two(t)
	all := []api.Range{{}}
	heap := func(table int, method uint8) api.Step { return api.Step{Table: table, Method: method} }
	index := func(table int, method uint8) api.Step {
		return api.Step{Table: table, Method: method, Path: api.Path{Kind: api.IndexPath, Index: table, Ranges: all}}
	}
	for i, c := range []struct {
		l    []api.Step
		want [][2]int64
	}{
		{[]api.Step{heap(0, 0), heap(1, api.LoopStep)}, [][2]int64{{1, 11}, {1, 13}, {2, 10}, {1, 11}, {1, 13}}},
		{[]api.Step{index(0, 0), index(1, api.LoopStep)}, [][2]int64{{1, 11}, {1, 13}, {1, 11}, {1, 13}, {2, 10}}},
		{[]api.Step{heap(0, 0), {Table: 1, Method: api.ProbeStep, Index: 1}}, [][2]int64{{1, 11}, {1, 13}, {2, 10}, {1, 11}, {1, 13}}},
		{[]api.Step{heap(1, 0), {Table: 0, Method: api.ProbeStep, Index: 0}}, [][2]int64{{2, 10}, {1, 11}, {1, 11}, {1, 13}, {1, 13}}},
		{[]api.Step{heap(0, 0), heap(1, api.MergeStep)}, [][2]int64{{1, 11}, {1, 13}, {1, 11}, {1, 13}, {2, 10}}},
		{[]api.Step{heap(1, 0), heap(0, api.MergeStep)}, [][2]int64{{1, 11}, {1, 11}, {1, 13}, {1, 13}, {2, 10}}},
		{[]api.Step{index(1, 0), index(0, api.MergeStep)}, [][2]int64{{1, 11}, {1, 11}, {1, 13}, {1, 13}, {2, 10}}},
	} {
		got, e := Run(x.pool, x.book, k, api.Plan{Steps: c.l})
		if e != api.OK || !slices.Equal(last(got), c.want) {
			t.Error(i, e, last(got))
		}
	}
	k.Where = nil
	got, e := Run(x.pool, x.book, k, api.Plan{Steps: []api.Step{heap(1, 0), heap(0, api.LoopStep)}})
	if e != api.OK || len(got) != 16 || !slices.Equal(last(got)[3:5], [][2]int64{{0, 10}, {1, 11}}) {
		t.Error("no conditions", e, len(got))
	}
	got[0].Rows[1][1] = num(99)
	if got[1].Rows[1][1] != num(10) {
		t.Error("combos share their rows")
	}
}

func TestSteps(t *testing.T) { // P27.1
	x, k := two(t)
	first, loop := api.Step{Table: 0}, api.Step{Table: 1, Method: api.LoopStep}
	merge := api.Step{Table: 1, Method: api.MergeStep}
	a, e := Step(x.pool, x.book, k, nil, nil, first)
	if e != api.OK || len(a) != 4 || len(a[0].Rows) != 2 || a[0].Rows[1] != nil {
		t.Fatal(e, a)
	}
	if l, e := Step(x.pool, x.book, k, nil, []api.Combo{{}, {Wrong: true}, {}}, first); e != api.OK || len(l) != 4 || l[0].Wrong {
		t.Error("a first step has one combo without rows ahead", e, len(l))
	}
	if l, e := Step(x.pool, x.book, k, []api.Step{first}, a, loop); e != api.OK || len(l) != 5 {
		t.Error(e, len(l))
	}
	a[0].Wrong = true
	if l, e := Step(x.pool, x.book, k, []api.Step{first}, a[:1], loop); e != api.OK || len(l) != 2 || !l[0].Wrong {
		t.Error("a combo that was wrong stays so", e, l)
	}
	if l, e := Step(x.pool, x.book, k, []api.Step{first}, nil, loop); e != api.OK || len(l) != 0 {
		t.Error("no combos", e)
	}
	// Combos that are said to come in the join's order aren't sorted; others are, in a stable way.
	byIndex := api.Step{Table: 0, Path: api.Path{Kind: api.IndexPath, Ranges: []api.Range{{}}}}
	had := []api.Combo{{Rows: [][]api.Value{{num(2)}, nil}}, {Rows: [][]api.Value{{num(1)}}}, {Rows: [][]api.Value{{{}}}}}
	l, e := Step(x.pool, x.book, k, []api.Step{byIndex}, had, merge)
	if e != api.OK || !slices.Equal(last(l), [][2]int64{{2, 10}, {1, 11}, {1, 13}}) {
		t.Error(e, last(l))
	}
	l, e = Step(x.pool, x.book, k, []api.Step{first}, had, merge)
	if e != api.OK || !slices.Equal(last(l), [][2]int64{{1, 11}, {1, 13}, {2, 10}}) || had[0].Rows[0][0] != num(2) {
		t.Error(e, last(l))
	}
}

// TestJoinNumber: a step joins by the join of its number among the joins, whatever conditions stand between them.
func TestJoinNumber(t *testing.T) { // P27.1
	x, k := two(t)
	join := k.Where[0]
	k.Where = []api.Term{binary("<", field(0, 0), lit(num(9))), binary("=", field(1, 1), field(0, 0)), binary("<", field(0, 0), field(1, 1)), join}
	first := api.Step{Table: 0}
	a, _ := Step(x.pool, x.book, k, nil, nil, first)
	for n, met := range map[int]struct{ merge, probe api.Errno }{-1: {api.ErrPlan, api.ErrPlan}, 0: {api.OK, api.ErrPlan}, 1: {api.OK, api.OK}, 2: {api.ErrPlan, api.ErrPlan}, 3: {api.ErrPlan, api.ErrPlan}} {
		merge, probe := api.Step{Table: 1, Method: api.MergeStep, Join: n}, api.Step{Table: 1, Method: api.ProbeStep, Index: 1, Join: n}
		if _, e := Step(x.pool, x.book, k, []api.Step{first}, a, merge); e != met.merge {
			t.Error("merge", n, e)
		}
		if _, e := Run(x.pool, x.book, k, api.Plan{Steps: []api.Step{first, probe}}); e != met.probe {
			t.Error("probe", n, e)
		}
	}
	// Without the first join the other one is the first.
	k.Where = []api.Term{k.Where[0], k.Where[2], join}
	for _, s := range []api.Step{{Table: 1, Method: api.MergeStep}, {Table: 1, Method: api.ProbeStep, Index: 1}} {
		if l, e := Run(x.pool, x.book, k, api.Plan{Steps: []api.Step{first, s}}); e != api.OK || len(l) != 5 {
			t.Error(e, last(l))
		}
	}
	// Rows come in the order of the join that is told.
	k.Where = []api.Term{lit(api.Value{Kind: api.Bool, Int: 1}), join, join}
	l, e := Step(x.pool, x.book, k, []api.Step{first}, a, api.Step{Table: 1, Method: api.MergeStep, Join: 1})
	if e != api.OK || !slices.Equal(last(l), [][2]int64{{1, 11}, {1, 13}, {1, 11}, {1, 13}, {2, 10}}) {
		t.Error(e, last(l))
	}
}

// TestOddCombos: rows of tables that haven't come play no part; of a row that is too short there is no value to join by.
func TestOddCombos(t *testing.T) { // P27.1
	x, k := two(t)
	k.Tables = append(k.Tables, 0)
	k.Where = append(k.Where, binary("=", field(0, 1), field(1, 1)))
	first, row := api.Step{Table: 0}, []api.Value{num(1)}
	had := []api.Combo{{Rows: [][]api.Value{row, {num(7), num(7)}, row}}}
	loop := k
	loop.Where = k.Where[:1]
	l, e := Step(x.pool, x.book, loop, []api.Step{first}, had, api.Step{Table: 1, Method: api.LoopStep})
	if e != api.OK || len(l) != 2 || l[0].Rows[2] != nil || len(l[0].Rows) != 3 {
		t.Error(e, l)
	}
	for _, join := range []int{0, 1} {
		l, e := Step(x.pool, x.book, k, []api.Step{first}, had, api.Step{Table: 1, Method: api.MergeStep, Join: join})
		if e != api.OK || join == 1 && len(l) != 0 || join == 0 && len(l) != 2 || join == 0 && !l[0].Wrong {
			t.Error(join, e, l)
		}
	}
}

func TestPlanErrors(t *testing.T) { // P27.1
	x, k := two(t)
	first, loop := api.Step{Table: 0}, api.Step{Table: 1, Method: api.LoopStep}
	row := []api.Combo{{Rows: [][]api.Value{{num(1)}, nil}}}
	for i, c := range []struct {
		l   []api.Step
		had []api.Combo
		s   api.Step
	}{
		{nil, row, loop}, {[]api.Step{first}, row, first}, {[]api.Step{first}, row, api.Step{Table: 0, Method: api.LoopStep}}, {[]api.Step{first}, row, api.Step{Table: 2, Method: api.LoopStep}}, {[]api.Step{first}, row, api.Step{Table: -1, Method: api.LoopStep}}, {[]api.Step{first}, row, api.Step{Table: 1, Method: 7}}, {[]api.Step{first}, row, api.Step{Table: 1, Method: api.MergeStep, Join: 1}}, {[]api.Step{first}, row, api.Step{Table: 1, Method: api.ProbeStep}}, {[]api.Step{first}, row, api.Step{Table: 1, Method: api.LoopStep, Path: api.Path{Kind: api.IndexPath, Index: 1}}},
		{[]api.Step{first}, []api.Combo{{}}, loop}, {[]api.Step{first}, []api.Combo{{Rows: [][]api.Value{nil, {num(1), num(2)}}}}, loop}, {[]api.Step{first}, append(slices.Clone(row), api.Combo{Rows: [][]api.Value{}}), loop}, {[]api.Step{{Table: 1}}, row, api.Step{Table: 0, Method: api.LoopStep}}, {[]api.Step{first, loop}, row, api.Step{}},
	} {
		if l, e := Step(x.pool, x.book, k, c.l, c.had, c.s); e != api.ErrPlan || l != nil {
			t.Error(i, e)
		}
	}
	for i, l := range [][]api.Step{nil, {first}, {first, first}, {loop, first}, {first, loop, loop}, {first, {Table: 1, Method: api.MergeStep, Join: 5}}} {
		if c, e := Run(x.pool, x.book, k, api.Plan{Steps: l}); e != api.ErrPlan || c != nil {
			t.Error("run", i, e)
		}
	}
	k.Order = []api.Key{{Item: 1}}
	if l, e := Run(x.pool, x.book, k, api.Plan{Steps: []api.Step{first, loop}}); e != api.OK || len(l) != 5 {
		t.Error("a plan's Sort doesn't count", e)
	}
	if _, e := Run(nil, x.book, k, api.Plan{Steps: []api.Step{first, loop}}); e == api.OK || e == api.ErrPlan {
		t.Error("a nil pool", e)
	}
	if _, e := Step(nil, api.Book{}, api.Block{}, []api.Step{{Table: math.MaxInt}, {Table: math.MinInt}}, nil, api.Step{}); e != api.ErrPlan {
		t.Error("nothing", e)
	}
}

// TestWrong: what is wrong is told of a combo, unless something else drops it.
func TestWrong(t *testing.T) { // P27.3
	x, k := two(t)
	great := binary(">", binary("*", field(0, 0), lit(num(1<<62))), lit(num(0))) // of 2 it is wrong
	k.Where = append(k.Where, great)
	steps := []api.Step{{Table: 0}, {Table: 1, Method: api.LoopStep}}
	l, e := Run(x.pool, x.book, k, api.Plan{Steps: steps})
	if e != api.OK || len(l) != 5 {
		t.Fatal(e, len(l))
	}
	for _, c := range l {
		if c.Wrong != (c.Rows[0][0] == num(2)) {
			t.Error(c)
		}
	}
	for _, drop := range []api.Term{lit(api.Value{Kind: api.Bool}), lit(api.Value{}), binary(">", field(1, 1), lit(num(77))), binary("<", binary("+", field(0, 0), field(1, 1)), lit(num(0)))} {
		with := k
		with.Where = append(slices.Clone(k.Where), drop)
		if l, e := Run(x.pool, x.book, with, api.Plan{Steps: steps}); e != api.OK || len(l) != 0 {
			t.Error("dropped", e, l)
		}
	}
}

func TestMuch(t *testing.T) { // P27.1
	s := api.Script{Tables: []api.Table{{Name: "a", Columns: []api.Column{{Name: "x", Kind: api.Int}}}, {Name: "b", Columns: []api.Column{{Name: "x", Kind: api.Int}}}}, Indexes: []api.Index{{Name: "bx", Table: 1, Columns: []int{0}}}, Rows: [][][]api.Value{nil, nil}}
	for range 201 {
		s.Rows[0] = append(s.Rows[0], []api.Value{num(1)})
	}
	for range 100 {
		s.Rows[1] = append(s.Rows[1], []api.Value{num(1)})
	}
	x := loaded(t, s)
	k := api.Block{Tables: []int{0, 1}, Where: []api.Term{binary("=", field(0, 0), field(1, 0)), binary("<", binary("+", field(0, 0), field(1, 0)), lit(num(0)))}}
	for i, second := range []api.Step{{Table: 1, Method: api.LoopStep}, {Table: 1, Method: api.ProbeStep}, {Table: 1, Method: api.MergeStep}} {
		if l, e := Run(x.pool, x.book, k, api.Plan{Steps: []api.Step{{Table: 0}, second}}); e != api.ErrMuch || l != nil {
			t.Error(i, e)
		}
	}
	s.Rows[0] = s.Rows[0][:200]
	x = loaded(t, s)
	for i, second := range []api.Step{{Table: 1, Method: api.LoopStep}, {Table: 1, Method: api.ProbeStep}, {Table: 1, Method: api.MergeStep}} {
		if l, e := Run(x.pool, x.book, k, api.Plan{Steps: []api.Step{{Table: 0}, second}}); e != api.OK || len(l) != 0 {
			t.Error("20000 combos", i, e)
		}
	}
}

func TestAnyDisk(t *testing.T) { // P27.1: whatever stands on the disk, it ends, and nothing is written.
	r := maker{rand.New(rand.NewSource(28))}
	x := loaded(t, r.script(30))
	image := x.disk.Image()
	for range 300 {
		b := slices.Clone(image)
		for range 1 + r.Intn(4) {
			b[r.Intn(20)*512+r.Intn([]int{8, 60, 512}[r.Intn(3)])] = byte(r.Intn(256))
		}
		d, _ := disk.Load(b)
		p, _ := pool.New(d, 3)
		k := r.block(1 + r.Intn(3))
		all, _ := plan.All(x.book, k, 2000)
		for range 6 {
			if l, e := Run(p, x.book, k, all[r.Intn(len(all))]); e != api.OK && l != nil {
				t.Error("combos beside an error")
			}
		}
		if !bytes.Equal(b, d.Image()) {
			t.Error("something was written")
		}
	}
}
