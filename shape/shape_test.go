package shape

import (
	"math"
	"math/rand"
	"slices"
	"testing"

	"rowlock/api"
	"rowlock/val"
)

func num(n int64) api.Value   { return api.Value{Kind: api.Int, Int: n} }
func bit(n int64) api.Value   { return api.Value{Kind: api.Bool, Int: n} }
func text(s string) api.Value { return api.Value{Kind: api.Text, Text: s} }
func lit(v api.Value) api.Term {
	return api.Term{Kind: api.Literal, Value: v}
}
func field(column int) api.Term { return api.Term{Kind: api.Field, Column: column} }
func binary(op string, a, b api.Term) api.Term {
	return api.Term{Kind: api.Binary, Op: op, Args: []api.Term{a, b}}
}
func total(op string, l ...api.Term) api.Term { return api.Term{Kind: api.Total, Op: op, Args: l} }
func numbered(n int) api.Term                 { return api.Term{Kind: api.Total, Column: n} }

var null = api.Value{}

// combos are of one table, one for each row.
func combos(rows ...[]api.Value) []api.Combo {
	var l []api.Combo
	for _, row := range rows {
		l = append(l, api.Combo{Rows: [][]api.Value{row}})
	}
	return l
}

// answered fails, unless there are these rows, in this order.
func answered(t *testing.T, name string, k api.Block, l []api.Combo, sort bool, want ...[]api.Value) {
	t.Helper()
	a, e := Shape(k, l, sort)
	if e != api.OK || !slices.EqualFunc(a.Rows, want, val.Same) || !slices.Equal(a.Names, k.Names) {
		t.Errorf("%s: %v, %v", name, a, e)
	}
}

// refused fails, unless there is ErrCalc.
func refused(t *testing.T, name string, k api.Block, l []api.Combo) {
	t.Helper()
	if a, e := Shape(k, l, true); e != api.ErrCalc || a.Names != nil || a.Rows != nil {
		t.Error(name, a, e)
	}
}

func TestPlain(t *testing.T) { // P28.1
	k := api.Block{Items: []api.Term{field(1), binary("+", field(0), lit(num(1)))}, Names: []string{"b", ""}, Limit: -1}
	l := combos([]api.Value{num(1), text("x")}, []api.Value{null, text("y")}, []api.Value{num(1), text("x")})
	answered(t, "each combo", k, l, false, []api.Value{text("x"), num(2)}, []api.Value{text("y"), null}, []api.Value{text("x"), num(2)})
	answered(t, "none", k, nil, true)
	k.Distinct = true
	answered(t, "distinct", k, l, false, []api.Value{text("x"), num(2)}, []api.Value{text("y"), null})
	k.Distinct = false
	for limit, n := range map[int]int{-5: 3, -1: 3, 0: 0, 1: 1, 2: 2, 3: 3, 4: 3, math.MaxInt: 3} {
		k.Limit = limit
		if a, e := Shape(k, l, false); e != api.OK || len(a.Rows) != n {
			t.Error("limit", limit, len(a.Rows), e)
		}
	}
	k.Limit = 0
	refused(t, "a wrong combo", k, append(slices.Clone(l), api.Combo{Rows: l[0].Rows, Wrong: true}))
	refused(t, "a wrong item", k, combos([]api.Value{num(1), text("x")}, []api.Value{num(math.MaxInt64), text("x")}))
	refused(t, "a row that is too short", k, combos([]api.Value{num(1)}))
	refused(t, "a total without groups", api.Block{Items: []api.Term{numbered(0)}, Totals: []api.Term{total("COUNT")}}, l)
}

func TestGroups(t *testing.T) { // P28.1
	k := api.Block{Grouped: true, Group: []api.Term{field(0)}, Totals: []api.Term{total("COUNT"), total("COUNT", field(1)), total("SUM", field(1)), total("MIN", field(1)), total("MAX", field(2))}, Limit: -1,
		Items: []api.Term{field(0), numbered(0), numbered(1), numbered(2), binary("*", numbered(3), lit(num(10))), numbered(4)}, Names: []string{"", "a", "b", "c", "d", "e"}}
	l := combos([]api.Value{num(2), num(5), text("q")}, []api.Value{null, null, null}, []api.Value{num(2), null, text("s")}, []api.Value{null, num(7), null}, []api.Value{num(1), null, text("")}, []api.Value{num(2), num(-1), text("r")})
	answered(t, "groups", k, l, false, []api.Value{num(2), num(3), num(2), num(4), num(-10), text("s")}, []api.Value{null, num(2), num(1), num(7), num(70), null}, []api.Value{num(1), num(1), num(0), null, null, text("")})
	answered(t, "no combos, no groups", k, nil, false)
	k.Group = nil
	k.Items[0] = lit(text("all"))
	answered(t, "one group of all", k, l, false, []api.Value{text("all"), num(6), num(3), num(11), num(-10), text("s")})
	answered(t, "one group of none", k, nil, true, []api.Value{text("all"), num(0), num(0), null, null, null})
	k.Items[0] = field(0)
	refused(t, "a field of no combo", k, nil)
	two := api.Block{Grouped: true, Group: []api.Term{field(0), field(1)}, Items: []api.Term{field(1), numbered(0)}, Totals: []api.Term{total("COUNT")}, Limit: -1}
	answered(t, "by two fields", two, combos([]api.Value{text("a"), text("bc")}, []api.Value{text("ab"), text("c")}, []api.Value{text("a"), text("bc")}, []api.Value{null, text("c")}, []api.Value{text("ab"), null}), false,
		[]api.Value{text("bc"), num(2)}, []api.Value{text("c"), num(1)}, []api.Value{text("c"), num(1)}, []api.Value{null, num(1)})
	kinds := api.Block{Grouped: true, Group: []api.Term{field(0)}, Items: []api.Term{numbered(0)}, Totals: []api.Term{total("COUNT")}, Limit: -1}
	answered(t, "values that may not be are grouped as they stand", kinds, combos([]api.Value{bit(2)}, []api.Value{bit(3)}, []api.Value{bit(2)}, []api.Value{{Kind: 9}}, []api.Value{null}, []api.Value{{Kind: api.Int, Int: 2, Text: "x"}}, []api.Value{num(2)}), false, []api.Value{num(2)}, []api.Value{num(1)}, []api.Value{num(2)}, []api.Value{num(2)})
}

func TestWrongTotals(t *testing.T) { // P28.1
	k := func(x api.Term) api.Block {
		return api.Block{Grouped: true, Items: []api.Term{lit(num(1))}, Totals: []api.Term{x}, Limit: 0}
	}
	l := combos([]api.Value{num(math.MaxInt64), text("a")}, []api.Value{num(1), null})
	refused(t, "a sum that is too great", k(total("SUM", field(0))), l)
	refused(t, "a sum of texts", k(total("SUM", field(1))), l)
	refused(t, "an argument that is wrong", k(total("COUNT", binary("+", field(0), lit(num(1))))), l)
	refused(t, "another one", k(total("AVG", field(0))), l)
	refused(t, "none to sum", k(total("SUM")), l)
	refused(t, "two to count", k(total("COUNT", field(0), field(0))), l)
	refused(t, "a value that may not be", k(total("COUNT", lit(bit(2)))), l)
	if _, e := Shape(k(total("SUM", field(0))), append(l, combos([]api.Value{num(-1), null})...), false); e != api.OK {
		t.Error("a sum that is right in the end", e)
	}
	field7 := k(total("COUNT"))
	field7.Group = []api.Term{field(7)}
	refused(t, "a field that isn't there", field7, l)
	if a, e := Shape(field7, nil, false); e != api.OK || len(a.Rows) != 0 {
		t.Error("of no combos", e)
	}
}

func TestTotal(t *testing.T) { // P28.1
	for i, x := range []struct {
		op   string
		l    []api.Value
		want api.Value
		ok   bool
	}{
		{"COUNT", nil, num(0), true}, {"COUNT", []api.Value{null, num(1), text("a"), null}, num(2), true}, {"SUM", nil, null, true}, {"SUM", []api.Value{null, null}, null, true}, {"SUM", []api.Value{num(2), null, num(-5)}, num(-3), true}, {"SUM", []api.Value{num(math.MaxInt64), num(1), num(-1)}, num(math.MaxInt64), true}, {"SUM", []api.Value{num(math.MaxInt64), num(1)}, null, false}, {"SUM", []api.Value{num(1), bit(1)}, null, false}, {"SUM", []api.Value{text("1")}, null, false},
		{"MIN", nil, null, true}, {"MAX", []api.Value{null}, null, true}, {"MIN", []api.Value{num(3), null, num(-3), num(0)}, num(-3), true}, {"MAX", []api.Value{num(-3), null, num(-5)}, num(-3), true}, {"MIN", []api.Value{text("b"), text("a\x00"), text("a")}, text("a"), true}, {"MAX", []api.Value{bit(0), bit(1), bit(0)}, bit(1), true}, {"MAX", []api.Value{num(9), text(""), bit(1)}, text(""), true},
		{"AVG", []api.Value{num(1)}, null, false}, {"", nil, null, false}, {"count", nil, null, false},
	} {
		if v, ok := Total(x.op, x.l); v != x.want || ok != x.ok {
			t.Error(i, v, ok)
		}
	}
	for _, op := range []string{"COUNT", "SUM", "MIN", "MAX"} {
		for _, v := range []api.Value{{Kind: 4}, {Int: 1}, bit(2), {Kind: 1, Text: "a"}} {
			if got, ok := Total(op, []api.Value{num(1), v}); got != null || ok {
				t.Error(op, v, got)
			}
		}
	}
}

func TestLess(t *testing.T) { // P28.1
	k := func(l ...api.Key) api.Block { return api.Block{Order: l} }
	a, b := []api.Value{num(1), text("x"), null}, []api.Value{num(1), text("y"), num(0)}
	for i, x := range []struct {
		k    api.Block
		a, b []api.Value
		want bool
	}{
		{k(), a, b, false}, {k(api.Key{Item: 1}), a, b, false}, {k(api.Key{Item: 1}), b, a, false}, {k(api.Key{Item: 2}), a, b, true}, {k(api.Key{Item: 2}), b, a, false}, {k(api.Key{Item: 2, Down: true}), b, a, true}, {k(api.Key{Item: 2, Down: true}), a, b, false}, {k(api.Key{Item: 1}, api.Key{Item: 3}), a, b, true}, {k(api.Key{Item: 3, Down: true}), a, b, false}, {k(api.Key{Item: 3, Down: true}, api.Key{Item: 2}), b, a, true},
		{k(api.Key{Item: 4}, api.Key{Item: 0}, api.Key{Item: -1}, api.Key{Item: math.MinInt}, api.Key{Item: math.MaxInt}, api.Key{Item: 2}), a, b, true}, {k(api.Key{Item: 2}), a[:1], b, false}, {k(api.Key{Item: 2}), a, b[:1], false}, {k(api.Key{Item: 1}), nil, b, false}, {k(api.Key{Item: 1}), []api.Value{num(1)}, []api.Value{num(2)}, true}, {k(api.Key{Item: 1, Down: true}), []api.Value{num(1)}, []api.Value{num(2)}, false},
	} {
		if got := Less(x.k, x.a, x.b); got != x.want {
			t.Error(i, got)
		}
	}
}

// maker makes random combos and blocks.
type maker struct{ *rand.Rand }

func (r maker) combos() []api.Combo {
	var l []api.Combo
	for range r.Intn(20) {
		row := []api.Value{num(int64(r.Intn(4))), text([]string{"", "a", "b"}[r.Intn(3)]), num(int64(r.Intn(3) - 1))}
		for i := range row {
			if r.Intn(5) == 0 {
				row[i] = null
			}
		}
		l = append(l, api.Combo{Rows: [][]api.Value{row}})
	}
	return l
}

func (r maker) block() api.Block {
	k := api.Block{Distinct: r.Intn(3) == 0, Limit: -1}
	columns := r.Perm(3)[:1+r.Intn(3)]
	for _, c := range columns {
		k.Items = append(k.Items, field(c))
		if r.Intn(2) == 0 {
			k.Order = append(k.Order, api.Key{Item: 1 + r.Intn(len(columns)), Down: r.Intn(2) == 0})
		}
	}
	if r.Intn(2) == 0 {
		k.Grouped = true
		k.Group = slices.Clone(k.Items)
		k.Totals = []api.Term{total("COUNT"), total("SUM", field(0)), total("MAX", field(1))}
		k.Items = append(k.Items, numbered(0), numbered(1), numbered(2))
		if r.Intn(4) == 0 {
			k.Group, k.Items = nil, k.Items[len(columns):]
		}
	}
	return k
}

// sorted are rows in an order of their own.
func sorted(rows [][]api.Value) [][]api.Value {
	l := slices.Clone(rows)
	slices.SortFunc(l, func(a, b []api.Value) int { return val.CompareRows(a, b, nil) })
	return l
}

func TestOrder(t *testing.T) { // P28.2, P28.3
	r := maker{rand.New(rand.NewSource(28))}
	for range 2000 {
		k, l := r.block(), r.combos()
		a, e := Shape(k, l, true)
		if e != api.OK {
			t.Fatal(e)
		}
		for i := 1; i < len(a.Rows); i++ {
			if Less(k, a.Rows[i], a.Rows[i-1]) {
				t.Fatal("a row stands ahead of one that should", a.Rows)
			}
		}
		if k.Distinct && len(slices.CompactFunc(sorted(a.Rows), val.Same)) != len(a.Rows) {
			t.Fatal("rows that are the same", a.Rows)
		}
		for limit := range len(a.Rows) + 2 {
			k.Limit = limit
			some, e := Shape(k, l, true)
			if e != api.OK || !slices.EqualFunc(some.Rows, a.Rows[:min(limit, len(a.Rows))], val.Same) {
				t.Fatal("a limit", limit, e)
			}
		}
		k.Limit = -1
		unsorted, _ := Shape(k, l, false)
		if stable := slices.Clone(unsorted.Rows); true {
			slices.SortStableFunc(stable, func(a, b []api.Value) int {
				if Less(k, a, b) {
					return -1
				}
				if Less(k, b, a) {
					return 1
				}
				return 0
			})
			if !slices.EqualFunc(stable, a.Rows, val.Same) {
				t.Fatal("not sorted in a stable way")
			}
		}
		r.Shuffle(len(l), func(i, k int) { l[i], l[k] = l[k], l[i] })
		again, e := Shape(k, l, true)
		if e != api.OK || !slices.EqualFunc(sorted(again.Rows), sorted(a.Rows), val.Same) {
			t.Fatal("combos in another order", e)
		}
	}
}

func TestOwnMemory(t *testing.T) { // P28.1
	k := api.Block{Items: []api.Term{field(0)}, Names: []string{"a"}, Limit: -1}
	l := combos([]api.Value{num(2)}, []api.Value{num(1)})
	k.Order = []api.Key{{Item: 1}}
	a, _ := Shape(k, l, true)
	a.Rows[0][0], a.Names[0] = num(9), "b"
	if l[0].Rows[0][0] != num(2) || l[1].Rows[0][0] != num(1) || k.Names[0] != "a" {
		t.Error("what was handed in changed")
	}
}
