package explain

import (
	"math"
	"math/rand"
	"slices"
	"strings"
	"testing"

	"rowlock/api"
	"rowlock/plan"
)

func num(n int64) api.Value   { return api.Value{Kind: api.Int, Int: n} }
func bit(n int64) api.Value   { return api.Value{Kind: api.Bool, Int: n} }
func text(s string) api.Value { return api.Value{Kind: api.Text, Text: s} }

func TestPlan(t *testing.T) { // P30.1
	b := api.Book{Tables: []api.Table{{Name: "a"}, {Name: "city"}}, Indexes: []api.Index{{Name: "ix"}, {Name: "iy"}}}
	k := api.Block{Tables: []int{0, 1, 1, 2, -1}}
	two := make([]api.Range, 2)
	index := func(kind uint8) api.Path { return api.Path{Kind: kind, Index: 1, Ranges: two, Also: two[:1]} }
	for i, x := range []struct {
		p    api.Plan
		want string
	}{
		{api.Plan{}, ""}, {api.Plan{Sort: true}, "sort\n"}, {api.Plan{Steps: []api.Step{{}}}, "first a#0 heap\n"}, {api.Plan{Steps: []api.Step{{Table: 2, Path: index(api.IndexPath)}, {Table: 1, Method: api.LoopStep, Path: index(api.OnlyPath)}}, Sort: true}, "first city#2 index iy 2\nloop city#1 only iy 2\nsort\n"},
		{api.Plan{Steps: []api.Step{{Path: index(api.BothPath)}}}, "first a#0 both iy ix 2 1\n"}, {api.Plan{Steps: []api.Step{{Table: 1, Method: api.ProbeStep, Index: 1, Join: 12}}}, "probe city#1 iy on 12\n"}, {api.Plan{Steps: []api.Step{{Table: 1, Method: api.MergeStep, Path: index(api.IndexPath), Join: 3}, {Method: api.MergeStep}}}, "merge city#1 index iy 2 on 3\nmerge a#0 heap on 0\n"},
		{api.Plan{Steps: []api.Step{{Table: 3}, {Table: 4}, {Table: 5}, {Table: -1}, {Method: 9}, {Path: api.Path{Kind: 4}}, {Path: api.Path{Kind: api.IndexPath, Index: 2}}, {Path: api.Path{Kind: api.OnlyPath, Index: -1}}, {Path: api.Path{Kind: api.BothPath, Other: 9}}, {Method: api.ProbeStep, Index: math.MaxInt, Join: -4}}},
			"first ?#3 heap\nfirst ?#4 heap\nfirst ?#5 heap\nfirst ?#-1 heap\n? a#0 heap\nfirst a#0 ?\nfirst a#0 index ? 0\nfirst a#0 only ? 0\nfirst a#0 both ix ? 0 0\nprobe a#0 ? on -4\n"},
	} {
		if got := Plan(b, k, x.p); got != x.want {
			t.Errorf("%d: %q", i, got)
		}
	}
}

// TestPlansOfBlocks: steps that may come show their joins by the numbers among the joins.
func TestPlansOfBlocks(t *testing.T) { // P30.1
	field := func(table, column int) api.Term { return api.Term{Kind: api.Field, Table: table, Column: column} }
	binary := func(op string, a, b api.Term) api.Term {
		return api.Term{Kind: api.Binary, Op: op, Args: []api.Term{a, b}}
	}
	b := api.Book{Tables: []api.Table{{Name: "a", Columns: make([]api.Column, 2)}}, Indexes: []api.Index{{Name: "ay", Columns: []int{1}}}}
	k := api.Block{Tables: []int{0, 0}, Items: []api.Term{field(0, 0), field(1, 0)}, Where: []api.Term{
		binary("<", field(0, 0), field(1, 0)), binary("=", field(0, 0), field(1, 0)), binary("<", field(0, 1), field(1, 1)), binary("=", field(1, 1), field(0, 1)),
	}}
	want := "loop a#1 heap\nloop a#1 index ay 1\nmerge a#1 heap on 0\nmerge a#1 index ay 1 on 0\nprobe a#1 ay on 1\nmerge a#1 heap on 1\nmerge a#1 index ay 1 on 1\n"
	if got := Plan(b, k, api.Plan{Steps: plan.Next(b, k, 1)}); got != want {
		t.Errorf("%q", got)
	}
}

func TestAnswer(t *testing.T) { // P30.1
	for i, x := range []struct {
		a    api.Answer
		want string
	}{
		{api.Answer{}, "\n"}, {api.Answer{Names: []string{"a"}}, "a\n"}, {api.Answer{Names: []string{"a", "", "c"}, Rows: [][]api.Value{{num(-1), {}, text("it's")}, {bit(1), bit(0), text(" | ")}}}, "a | - | c\n-1 | NULL | 'it''s'\nTRUE | FALSE | ' | '\n"}, {api.Answer{Rows: [][]api.Value{nil, {num(1)}}}, "\n\n1\n"},
	} {
		if got := Answer(x.a); got != x.want {
			t.Errorf("%d: %q", i, got)
		}
	}
}

func TestValues(t *testing.T) { // P30.1
	for s, want := range map[string][]api.Value{
		"1": {num(1)}, "NULL": {{}}, "1 | NULL | 'a'": {num(1), {}, text("a")}, "' | ' | '|'": {text(" | "), text("|")}, "'''' | ''": {text("'"), text("")}, "TRUE | FALSE | -5": {bit(1), bit(0), num(-5)}, "'a'' | ''b'": {text("a' | 'b")}, "'\n'": {text("\n")},
	} {
		if l, ok := Values(s); !ok || !slices.Equal(l, want) {
			t.Errorf("%q: %v, %v", s, l, ok)
		}
	}
	for _, s := range []string{"", " ", "|", " | ", "1 | ", " | 1", "1|2", "1 |2", "1| 2", "1  | 2", "1 | | 2", "1 |  2", "a", "1 2", "'a", "'a'b", "'a' 'b'", "'a'|'b'", "05", "1\n", "1 | 2\n", "null", "'" + strings.Repeat("a", 49) + "'", "1 | x | 2", "1 | '", "' | "} {
		if l, ok := Values(s); ok || l != nil {
			t.Errorf("%q: %v", s, l)
		}
	}
}

func TestThereAndBack(t *testing.T) { // P30.2
	r := rand.New(rand.NewSource(30))
	for range 3000 {
		var row []api.Value
		for range 1 + r.Intn(5) {
			var s string
			for range r.Intn(9) {
				s += []string{"'", "|", " ", " | ", "''", "a", "\n", "\x00", "\xff", "NULL"}[r.Intn(10)]
			}
			row = append(row, []api.Value{{}, num(int64(r.Uint64())), bit(int64(r.Intn(2))), text(s)}[r.Intn(4)])
		}
		shown := Answer(api.Answer{Rows: [][]api.Value{row}})
		if l, ok := Values(shown[1 : len(shown)-1]); !ok || !slices.Equal(l, row) {
			t.Fatalf("%q: %v", shown, l)
		}
	}
}
