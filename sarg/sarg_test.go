package sarg

import (
	"math"
	"math/rand"
	"slices"
	"strings"
	"testing"

	"rowlock/api"
	"rowlock/keycode"
	"rowlock/term"
)

func num(n int64) api.Value   { return api.Value{Kind: api.Int, Int: n} }
func bit(n int64) api.Value   { return api.Value{Kind: api.Bool, Int: n} }
func text(s string) api.Value { return api.Value{Kind: api.Text, Text: s} }
func lit(v api.Value) api.Term {
	return api.Term{Kind: api.Literal, Value: v}
}
func field(table, column int) api.Term {
	return api.Term{Kind: api.Field, Table: table, Column: column}
}
func binary(op string, a, b api.Term) api.Term {
	return api.Term{Kind: api.Binary, Op: op, Args: []api.Term{a, b}}
}
func in(not bool, l ...api.Term) api.Term { return api.Term{Kind: api.In, Not: not, Args: l} }
func isNull(not bool, a api.Term) api.Term {
	return api.Term{Kind: api.IsNull, Not: not, Args: []api.Term{a}}
}
func is(op string, column int, v api.Value) api.Term { return binary(op, field(0, column), lit(v)) }

var (
	null  = api.Value{}
	great = binary("+", lit(num(math.MaxInt64)), lit(num(1)))
	sum   = binary("+", lit(num(2)), lit(num(3)))
)

// book has one table (Int, Text, Bool, Int), and indexes: on 0; on 0, 3; on 1; on 2, 0; on 1, 2; and one of another table.
func book() api.Book {
	return api.Book{
		Tables:  []api.Table{{Columns: []api.Column{{Kind: api.Int}, {Kind: api.Text}, {Kind: api.Bool}, {Kind: api.Int}}}, {Columns: []api.Column{{Kind: api.Int}}}},
		Indexes: []api.Index{{Columns: []int{0}}, {Columns: []int{0, 3}}, {Columns: []int{1}}, {Columns: []int{2, 0}}, {Columns: []int{1, 2}}, {Table: 1, Columns: []int{0}}},
	}
}

func block(l ...api.Term) api.Block { return api.Block{Tables: []int{0, 1, 7}, Where: l} }

func TestEqual(t *testing.T) { // P21.1
	x := field(0, 0)
	for i, c := range []struct {
		t    api.Term
		want []api.Value
		ok   bool
	}{
		{is("=", 0, num(5)), []api.Value{num(5)}, true}, {binary("=", lit(num(5)), x), []api.Value{num(5)}, true}, {binary("=", x, sum), []api.Value{num(5)}, true}, {isNull(false, x), []api.Value{null}, true}, {in(false, x, lit(num(5)), lit(num(1)), sum), []api.Value{num(1), num(5)}, true}, {in(false, x, lit(null), lit(num(1))), []api.Value{num(1)}, true}, {in(false, x, lit(null)), nil, true}, {in(false, x), nil, true},
		{binary("OR", is("=", 0, num(5)), binary("OR", isNull(false, x), in(false, x, lit(num(9)), lit(num(1)), lit(num(5))))), []api.Value{null, num(1), num(5), num(9)}, true}, {binary("OR", binary("OR", in(false, x, lit(null)), is("=", 0, num(2))), is("=", 0, num(2))), []api.Value{num(2)}, true},
		{is("=", 0, null), nil, false}, {is("=", 0, bit(2)), nil, false}, {binary("=", x, great), nil, false}, {binary("=", x, x), nil, false}, {binary("=", sum, sum), nil, false}, {is("<>", 0, num(1)), nil, false}, {is("<", 0, num(1)), nil, false}, {isNull(true, x), nil, false}, {isNull(false, sum), nil, false}, {in(true, x, lit(num(1))), nil, false}, {in(false, x, x), nil, false}, {in(false, x, lit(num(1)), great), nil, false}, {in(false, x, lit(api.Value{Kind: 4})), nil, false}, {in(false, x, lit(api.Value{Int: 1})), nil, false}, {in(false, sum, x), nil, false}, {in(false), nil, false},
		{binary("OR", is("=", 0, num(1)), is("=", 1, text("a"))), nil, false}, {binary("OR", is("=", 0, num(1)), binary("=", field(1, 0), lit(num(1)))), nil, false}, {binary("OR", is("=", 0, num(1)), is("<", 0, num(1))), nil, false}, {binary("OR", is("=", 0, null), is("=", 0, num(1))), nil, false}, {binary("AND", is("=", 0, num(1)), is("=", 0, num(1))), nil, false}, {api.Term{Kind: api.Binary, Op: "OR", Args: []api.Term{is("=", 0, num(1))}}, nil, false},
		{api.Term{}, nil, false}, {x, nil, false}, {lit(bit(1)), nil, false}, {api.Term{Kind: api.IsNull}, nil, false}, {api.Term{Kind: api.Binary, Op: "="}, nil, false}, {binary("=", x, api.Term{Kind: api.Total}), nil, false}, {api.Term{Kind: api.Unary, Op: "=", Args: []api.Term{x, sum}}, nil, false},
	} {
		f, l, ok := Equal(c.t)
		if ok != c.ok || !slices.Equal(l, c.want) || ok && (f.Kind != api.Field || f.Table != 0 || f.Column != 0) || !ok && (f.Kind != 0 || l != nil) {
			t.Error(i, f, l, ok)
		}
	}
	a, b := field(0, 0), field(0, 0)
	a.Of, b.Of = "first", "second"
	if f, _, ok := Equal(binary("OR", binary("=", a, sum), binary("=", b, sum))); !ok || f.Of != "first" {
		t.Error("the field is the first one's", f)
	}
}

func TestBetween(t *testing.T) { // P21.1
	x := field(0, 0)
	for i, c := range []struct {
		t    api.Term
		op   string
		v    api.Value
		want bool
	}{
		{is("<", 0, num(5)), "<", num(5), true}, {is("<=", 0, num(5)), "<=", num(5), true}, {is(">", 0, num(5)), ">", num(5), true}, {is(">=", 0, num(5)), ">=", num(5), true}, {binary("<", sum, x), ">", num(5), true}, {binary("<=", sum, x), ">=", num(5), true}, {binary(">", sum, x), "<", num(5), true}, {binary(">=", sum, x), "<=", num(5), true},
		{is("=", 0, num(5)), "", null, false}, {is("<>", 0, num(5)), "", null, false}, {is("<", 0, null), "", null, false}, {binary("<", x, x), "", null, false}, {binary("<", great, x), "", null, false}, {is(">", 0, bit(7)), "", null, false}, {isNull(false, x), "", null, false}, {is("+", 0, num(5)), "", null, false}, {api.Term{Kind: api.Binary, Op: "<", Args: []api.Term{x}}, "", null, false}, {api.Term{}, "", null, false}, {binary("<", sum, sum), "", null, false},
	} {
		f, op, v, ok := Between(c.t)
		if op != c.op || v != c.v || ok != c.want || (f.Kind == api.Field) != ok {
			t.Error(i, op, v, ok)
		}
	}
}

// key is that of some values.
func keyOf(l ...api.Value) string { s, _ := keycode.Put(l); return s }

func TestRanges(t *testing.T) { // P21.1
	long := strings.Repeat("a", 47)
	other := binary("=", field(1, 0), lit(num(1)))
	for i, x := range []struct {
		index int
		l     []api.Term
		count int
		conds []int
	}{
		{0, nil, 1, nil}, {0, []api.Term{other, is("<>", 0, num(1)), is("=", 3, num(1))}, 1, nil}, {0, []api.Term{other, is("=", 0, num(1))}, 1, []int{1}}, {0, []api.Term{is("=", 0, num(1)), is("=", 0, num(2))}, 1, []int{0}}, {0, []api.Term{in(false, field(0, 0), sum, lit(num(1)), lit(num(5))), is(">", 0, num(1))}, 2, []int{0}}, {0, []api.Term{in(false, field(0, 0), lit(null))}, 0, []int{0}}, {0, []api.Term{isNull(false, field(0, 0))}, 1, []int{0}},
		{0, []api.Term{is("<", 0, num(9)), is(">", 0, num(2)), is(">=", 0, num(3)), is("<=", 0, num(8))}, 1, []int{0, 1}}, {0, []api.Term{is("<", 0, num(2)), is(">", 0, num(5))}, 0, []int{0, 1}}, {0, []api.Term{is(">", 0, num(5)), is("<", 0, num(6))}, 0, []int{0, 1}}, {0, []api.Term{is(">", 0, num(5)), is("<=", 0, num(6))}, 1, []int{0, 1}}, {0, []api.Term{is(">", 0, num(math.MaxInt64))}, 0, []int{0}}, {0, []api.Term{is("<", 0, num(math.MinInt64))}, 0, []int{0}}, {0, []api.Term{is(">=", 0, num(math.MaxInt64))}, 1, []int{0}}, {0, []api.Term{is("<=", 0, num(math.MinInt64))}, 1, []int{0}},
		{1, []api.Term{is(">", 3, num(2)), is("=", 0, num(5))}, 1, []int{0, 1}}, {1, []api.Term{is("=", 3, num(2)), in(false, field(0, 0), lit(num(7)), lit(num(5)))}, 2, []int{1}}, {1, []api.Term{is("<", 3, num(2)), in(false, field(0, 0), lit(num(7)), lit(num(5)))}, 2, []int{1}}, {1, []api.Term{in(false, field(0, 3), lit(num(2)), lit(num(3)), lit(num(9))), is("=", 0, num(5))}, 3, []int{0, 1}}, {1, []api.Term{is("=", 3, num(2))}, 1, nil}, {1, []api.Term{is(">", 0, num(2)), is("=", 3, num(2))}, 1, []int{0}}, {1, []api.Term{is("=", 0, num(2)), is(">", 0, num(3))}, 1, []int{0}}, {1, []api.Term{is("=", 0, num(2)), in(false, field(0, 3), lit(null))}, 0, []int{0, 1}}, {1, []api.Term{in(false, field(0, 0), lit(null)), is("=", 3, num(1))}, 0, []int{0}}, {1, []api.Term{isNull(false, field(0, 0)), is("<", 3, num(1))}, 1, []int{0, 1}},
		{3, []api.Term{is(">", 2, bit(0))}, 1, []int{0}}, {3, []api.Term{is(">", 2, bit(1))}, 0, []int{0}}, {3, []api.Term{is("<", 2, bit(0))}, 0, []int{0}}, {3, []api.Term{is("<=", 2, bit(0))}, 1, []int{0}},
		{2, []api.Term{is("<", 1, text(""))}, 0, []int{0}}, {2, []api.Term{is("<", 1, text("\x00"))}, 1, []int{0}}, {2, []api.Term{is(">", 1, text("a")), is("<", 1, text("a\x00"))}, 0, []int{0, 1}}, {2, []api.Term{is(">", 1, text(strings.Repeat("\xff", 48)))}, 0, []int{0}}, {2, []api.Term{is(">", 1, text(strings.Repeat("\xff", 47)))}, 1, []int{0}}, {2, []api.Term{is(">", 1, text(long+"a")), is("<", 1, text(long+"b"))}, 0, []int{0, 1}}, {2, []api.Term{is(">", 1, text(long+"a")), is("<=", 1, text(long+"b"))}, 1, []int{0, 1}},
		{5, []api.Term{is("=", 0, num(1))}, 0, nil}, {6, nil, 0, nil}, {9, nil, 0, nil}, {-1, nil, 0, nil},
	} {
		l, conds := Ranges(book(), block(x.l...), 0, x.index)
		if len(l) != x.count || !slices.Equal(conds, x.conds) {
			t.Error(i, l, conds)
		}
		for n, r := range l {
			if r.Ends && r.Lo >= r.Hi || n > 0 && (!l[n-1].Ends || l[n-1].Hi > r.Lo) {
				t.Error(i, "ranges rise, and don't overlap", l)
			}
		}
	}
	if l, _ := Ranges(book(), block(), 0, 0); !slices.Equal(l, []api.Range{{}}) {
		t.Error("all keys", l)
	}
	if l, conds := Ranges(book(), block(other), 1, 5); len(l) != 1 || l[0].Lo != keyOf(num(1)) || !slices.Equal(conds, []int{0}) {
		t.Error("of another table", l)
	}
	l, _ := Ranges(book(), block(is(">", 3, num(2)), is("=", 0, num(5))), 0, 1)
	for _, x := range []struct {
		row  []api.Value
		want bool
	}{{[]api.Value{num(5), num(3)}, true}, {[]api.Value{num(5), num(2)}, false}, {[]api.Value{num(5), null}, false}, {[]api.Value{num(5), num(math.MaxInt64)}, true}, {[]api.Value{num(6), num(3)}, false}, {[]api.Value{num(4), num(3)}, false}} {
		if In(l, keyOf(x.row...)) != x.want {
			t.Error(x.row)
		}
	}
}

// TestExample: the keys behind 5, 2, up to those behind 5.
func TestExample(t *testing.T) { // P21.1
	l, conds := Ranges(book(), block(is("=", 0, num(5)), is(">", 3, num(2))), 0, 1)
	lo, _ := keycode.Behind(keyOf(num(5), num(2)))
	hi, _ := keycode.Behind(keyOf(num(5)))
	if !slices.Equal(l, []api.Range{{Lo: lo, Hi: hi, Ends: true}}) || !slices.Equal(conds, []int{0, 1}) {
		t.Error(l, conds)
	}
}

// TestOtherKinds: of a test with a value of another kind than the column's the range has just the values of that kind that pass.
func TestOtherKinds(t *testing.T) { // P21.3
	for i, x := range []api.Term{is(">", 0, text("")), is("<", 0, text("z")), is(">=", 1, num(0)), is("<", 2, num(0)), is(">", 2, num(0)), is("<=", 1, bit(1))} {
		index := []int{0, 0, 2, 3, 3, 2}[i]
		l, conds := Ranges(book(), block(x), 0, index)
		if !slices.Equal(conds, []int{0}) || len(l) != 1 {
			t.Fatal(i, l, conds)
		}
		for _, v := range []api.Value{null, num(math.MinInt64), num(5), num(math.MaxInt64), text(""), text("y"), text("zz"), bit(0), bit(1)} {
			row := make([]api.Value, 4)
			row[x.Args[0].Column] = v
			if In(l, keyOf(v, null)) != (term.Truth(x, [][]api.Value{row}) == api.True) {
				t.Error(i, x.Op, v, l)
			}
		}
	}
	l, _ := Ranges(book(), block(is(">", 0, num(5)), is("<", 0, text("a"))), 0, 0)
	if len(l) != 0 {
		t.Error("no value is of two kinds", l)
	}
	odd := api.Book{Tables: book().Tables, Indexes: []api.Index{{Columns: []int{-1}}, {Columns: []int{4}}}}
	for index, x := range []api.Term{is(">", -1, num(1)), is(">", 4, num(1))} {
		if l, conds := Ranges(odd, block(x), 0, index); len(l) != 1 || len(conds) != 1 {
			t.Error("a column that isn't there", l, conds)
		}
	}
}

func TestNoTable(t *testing.T) { // P21.1
	k := block(is("=", 0, num(1)))
	for _, table := range []int{2, 3, -1, math.MaxInt, math.MinInt} {
		if l, c := Ranges(book(), k, table, 0); l != nil || c != nil {
			t.Error(table, l)
		}
	}
	k = api.Block{Tables: make([]int, 40)}
	if l, _ := Ranges(book(), k, 30, 0); len(l) != 1 {
		t.Error("table 30", l)
	}
	if l, _ := Ranges(book(), k, 31, 0); l != nil {
		t.Error("table 31", l)
	}
	if l, _ := Ranges(api.Book{Indexes: book().Indexes}, block(), 0, 0); l != nil {
		t.Error("no table in the book", l)
	}
	if l, c := Ranges(api.Book{Tables: book().Tables, Indexes: []api.Index{{Columns: []int{-3, 99}}, {}}}, block(), 0, 0); len(l) != 1 || c != nil {
		t.Error("columns that aren't there", l)
	}
}

// maker makes random tests, rows and values.
type maker struct{ *rand.Rand }

func (r maker) value(column int) api.Value {
	switch column {
	case 1:
		return text([]string{"", "\x00", "a", "a\x00", "a\x00\x00", "ab", "b", "\xff", strings.Repeat("\xff", 48), strings.Repeat("a", 48)}[r.Intn(10)])
	case 2:
		return bit(int64(r.Intn(2)))
	}
	return num([]int64{math.MinInt64, math.MinInt64 + 1, -1, 0, 1, 2, 3, math.MaxInt64 - 1, math.MaxInt64}[r.Intn(9)])
}

func (r maker) maybe(column int) api.Value {
	if r.Intn(6) == 0 {
		return null
	}
	return r.value(column)
}

func (r maker) cond(deep int) api.Term {
	c := r.Intn(4)
	switch n := r.Intn(8 + deep); n {
	case 0:
		return isNull(r.Intn(3) == 0, field(0, c))
	case 1:
		return in(r.Intn(4) == 0, field(0, c), lit(r.maybe(c)), lit(r.maybe(c)), lit(r.value(c)))
	case 2, 3:
		return is([]string{"=", "<>"}[r.Intn(5)/4], c, r.maybe(c))
	case 4:
		return binary([]string{"<", ">=", "="}[r.Intn(3)], lit(r.value(c)), field(0, c))
	case 8, 9:
		return binary("OR", binary("=", field(0, c), lit(r.value(c))), binary("OR", isNull(false, field(0, c)), r.cond(0)))
	default:
		return is([]string{"<", "<=", ">", ">="}[r.Intn(4)], c, r.maybe(c))
	}
}

// TestLost: a row's key is in a range just if all conditions hold that the ranges come from.
func TestLost(t *testing.T) { // P21.2, P21.3
	r := maker{rand.New(rand.NewSource(21))}
	b := book()
	inside, outside := 0, 0
	for range 4000 {
		var l []api.Term
		for range 1 + r.Intn(5) {
			l = append(l, r.cond(2))
		}
		for x, index := range b.Indexes[:5] {
			ranges, conds := Ranges(b, block(l...), 0, x)
			var from []api.Term
			for _, c := range conds {
				from = append(from, l[c])
			}
			for n, g := range ranges {
				if n > 0 && (!ranges[n-1].Ends || ranges[n-1].Hi > g.Lo) {
					t.Fatal("ranges overlap", ranges)
				}
			}
			for range 12 {
				row := []api.Value{r.maybe(0), r.maybe(1), r.maybe(2), r.maybe(3)}
				var part []api.Value
				for _, c := range index.Columns {
					part = append(part, row[c])
				}
				holds := term.Holds(from, [][]api.Value{row}) == api.True
				if In(ranges, keyOf(part...)) != holds {
					t.Fatal(x, row, ranges, conds, holds)
				}
				if holds {
					inside++
				} else {
					outside++
				}
			}
		}
	}
	if inside < 1000 || outside < 1000 {
		t.Error("all alike", inside, outside)
	}
}

func TestProbe(t *testing.T) { // P21.1
	for _, v := range []api.Value{num(5), num(math.MinInt64), bit(1), text(""), text("\xff")} {
		r, ok := Probe(v)
		if !ok || !In([]api.Range{r}, keyOf(v)) || !In([]api.Range{r}, keyOf(v, null)) || !In([]api.Range{r}, keyOf(v, text("z"))) {
			t.Error(v, r)
		}
		for _, w := range []api.Value{null, num(6), num(4), bit(0), text("\x00"), text("\xff\x00")} {
			if In([]api.Range{r}, keyOf(w, v)) {
				t.Error(v, w)
			}
		}
	}
	for _, v := range []api.Value{null, {Kind: 2, Int: 2}, {Kind: 4}, {Int: 1}} {
		if r, ok := Probe(v); ok || r != (api.Range{}) {
			t.Error(v)
		}
	}
}

func TestIn(t *testing.T) { // P21.1
	l := []api.Range{{Lo: "b", Hi: "d", Ends: true}, {Lo: "f", Hi: "a"}}
	for s, want := range map[string]bool{"": false, "a": false, "b": true, "c\xff": true, "d": false, "e": false, "f": true, "z": true} {
		if In(l, s) != want {
			t.Error(s)
		}
	}
	if In(nil, "a") || In([]api.Range{{Ends: true}}, "") || !In([]api.Range{{}}, "") {
		t.Error("in")
	}
}
