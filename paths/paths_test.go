package paths

import (
	"math"
	"slices"
	"testing"

	"rowlock/api"
	"rowlock/sarg"
)

func field(table, column int) api.Term {
	return api.Term{Kind: api.Field, Table: table, Column: column}
}

func is(table, column int, n int64) api.Term {
	return api.Term{Kind: api.Binary, Op: "=", Args: []api.Term{field(table, column), {Kind: api.Literal, Value: api.Value{Kind: api.Int, Int: n}}}}
}

// book has a table of four columns with indexes on 0; 1, 2; 3; and one without any.
func book() api.Book {
	column := api.Column{Kind: api.Int}
	return api.Book{
		Tables:  []api.Table{{Columns: []api.Column{column}}, {Columns: []api.Column{column, column, column, column}}},
		Indexes: []api.Index{{Table: 1, Columns: []int{0}}, {Table: 7, Columns: []int{0}}, {Table: 1, Columns: []int{1, 2}}, {Table: 1, Columns: []int{3}}},
	}
}

// kinds are those of paths, with their indexes.
func kinds(l []api.Path) [][3]int {
	var k [][3]int
	for _, p := range l {
		k = append(k, [3]int{int(p.Kind), p.Index, p.Other})
	}
	return k
}

func TestAll(t *testing.T) { // P22.1
	heap, index, only, both := api.HeapPath, api.IndexPath, api.OnlyPath, api.BothPath
	for i, x := range []struct {
		k     api.Block
		table int
		want  [][3]int
	}{
		{api.Block{Tables: []int{0}}, 0, [][3]int{{heap}}},
		{api.Block{Tables: []int{0, 1}, Items: []api.Term{field(1, 0), field(1, 3)}}, 1, [][3]int{{heap}, {index}, {index, 2}, {index, 3}}},
		{api.Block{Tables: []int{1, 1}, Items: []api.Term{field(1, 0), field(0, 3)}}, 1, [][3]int{{heap}, {index}, {only}, {index, 2}, {index, 3}}},
		{api.Block{Tables: []int{1}, Items: []api.Term{field(0, 2)}}, 0, [][3]int{{heap}, {index}, {index, 2}, {only, 2}, {index, 3}}},
		{api.Block{Tables: []int{1}}, 0, [][3]int{{heap}, {index}, {only}, {index, 2}, {only, 2}, {index, 3}, {only, 3}}},
		{api.Block{Tables: []int{1}, Items: []api.Term{field(0, 0)}, Where: []api.Term{is(0, 0, 1), is(0, 2, 1)}}, 0, [][3]int{{heap}, {index}, {index, 2}, {index, 3}}},
		{api.Block{Tables: []int{1}, Items: []api.Term{field(0, 0)}, Where: []api.Term{is(0, 0, 1), is(0, 3, 1), is(0, 1, 1)}}, 0, [][3]int{{heap}, {index}, {index, 2}, {index, 3}, {both, 0, 2}, {both, 0, 3}, {both, 2, 3}}},
		{api.Block{Tables: []int{1}, Group: []api.Term{field(0, 3)}, Where: []api.Term{is(0, 3, 1)}, Totals: []api.Term{{Kind: api.Total, Args: []api.Term{field(0, 3)}}}}, 0, [][3]int{{heap}, {index}, {index, 2}, {index, 3}, {only, 3}}},
		{api.Block{Tables: []int{1, 0}}, 2, nil}, {api.Block{Tables: []int{1, 0}}, -1, nil}, {api.Block{Tables: []int{2, -1}}, 0, nil}, {api.Block{Tables: []int{2, -1}}, 1, nil}, {api.Block{}, math.MaxInt, nil},
	} {
		if got := kinds(All(book(), x.k, x.table)); !slices.Equal(got, x.want) {
			t.Error(i, got)
		}
	}
}

func TestFields(t *testing.T) { // P22.1
	k := api.Block{Tables: []int{1}, Where: []api.Term{is(0, 3, 1), is(0, 1, 4), is(0, 2, 5)}, Items: []api.Term{field(0, 0)}}
	l := All(book(), k, 0)
	ranges, conds := sarg.Ranges(book(), k, 0, 2)
	more, others := sarg.Ranges(book(), k, 0, 3)
	all, _ := sarg.Ranges(book(), k, 0, 0)
	want := []api.Path{{}, {Kind: api.IndexPath, Ranges: all}, {Kind: api.IndexPath, Index: 2, Ranges: ranges, Conds: conds}, {Kind: api.IndexPath, Index: 3, Ranges: more, Conds: others}, {Kind: api.BothPath, Index: 2, Ranges: ranges, Conds: conds, Other: 3, Also: more, More: others}}
	if !slices.EqualFunc(l, want, Same) || !slices.Equal(conds, []int{1, 2}) || !slices.Equal(others, []int{0}) {
		t.Error(l)
	}
	if !slices.Equal(Conds(l[4]), []int{0, 1, 2}) || len(Conds(l[0])) != 0 || !slices.Equal(Conds(api.Path{Conds: []int{5, 2}, More: []int{2, 1, 5}}), []int{1, 2, 5}) {
		t.Error("conds", Conds(l[4]))
	}
	for _, p := range l {
		if !Has(l, p) || Has(nil, p) {
			t.Error("has", p)
		}
	}
	l[4].Ranges[0].Lo, l[4].Conds[0], l[4].Also[0].Lo, l[4].More[0] = "x", 9, "x", 9
	if Has(l[:2], want[2]) || !Same(l[2], want[2]) || !Same(l[3], want[3]) {
		t.Error("paths share their lists")
	}
}

func TestOrder(t *testing.T) { // P22.1
	b := book()
	b.Indexes = append(b.Indexes, api.Index{})
	for _, x := range []struct {
		p    api.Path
		want int
	}{{api.Path{}, -1}, {api.Path{Kind: api.IndexPath, Index: 2}, 1}, {api.Path{Kind: api.OnlyPath, Index: 3}, 3}, {api.Path{Kind: api.OnlyPath}, 0}, {api.Path{Kind: api.BothPath, Index: 2, Other: 3}, -1}, {api.Path{Kind: 9}, -1}, {api.Path{Kind: api.IndexPath, Index: 5}, -1}, {api.Path{Kind: api.IndexPath, Index: -1}, -1}, {api.Path{Kind: api.IndexPath, Index: 4}, -1}} {
		if got := Order(b, x.p); got != x.want {
			t.Error(x.p, got)
		}
	}
}

func TestSame(t *testing.T) { // P22.1
	base := func() api.Path {
		return api.Path{Kind: api.BothPath, Index: 1, Ranges: []api.Range{{Lo: "a", Hi: "b", Ends: true}}, Conds: []int{1}, Other: 2, Also: []api.Range{{Lo: "c"}}, More: []int{3}}
	}
	if !Same(base(), base()) || !Same(api.Path{}, api.Path{Ranges: []api.Range{}, Conds: []int{}, Also: []api.Range{}, More: []int{}}) {
		t.Error("same")
	}
	for i, do := range []func(p *api.Path){
		func(p *api.Path) { p.Kind = 2 }, func(p *api.Path) { p.Index = 0 }, func(p *api.Path) { p.Other = 0 }, func(p *api.Path) { p.Ranges = nil }, func(p *api.Path) { p.Ranges[0].Lo = "" }, func(p *api.Path) { p.Ranges[0].Hi = "" }, func(p *api.Path) { p.Ranges[0].Ends = false },
		func(p *api.Path) { p.Conds = nil }, func(p *api.Path) { p.Conds[0] = 2 }, func(p *api.Path) { p.Also = nil }, func(p *api.Path) { p.Also[0].Ends = true }, func(p *api.Path) { p.More = nil }, func(p *api.Path) { p.More[0] = 2 },
	} {
		p := base()
		do(&p)
		if Same(p, base()) || Same(base(), p) || Has([]api.Path{p}, base()) {
			t.Error(i)
		}
	}
}
