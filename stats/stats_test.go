package stats

import (
	"math"
	"math/big"
	"math/rand"
	"slices"
	"testing"

	"rowlock/api"
)

func lit(v api.Value) api.Term { return api.Term{Kind: api.Literal, Value: v} }
func num(n int64) api.Term     { return lit(api.Value{Kind: api.Int, Int: n}) }
func bit(n int64) api.Term     { return lit(api.Value{Kind: api.Bool, Int: n}) }
func field(table, column int) api.Term {
	return api.Term{Kind: api.Field, Table: table, Column: column}
}
func binary(op string, a, b api.Term) api.Term {
	return api.Term{Kind: api.Binary, Op: op, Args: []api.Term{a, b}}
}
func not(a api.Term) api.Term {
	return api.Term{Kind: api.Unary, Op: "NOT", Args: []api.Term{a}}
}
func isNull(not bool, a api.Term) api.Term {
	return api.Term{Kind: api.IsNull, Not: not, Args: []api.Term{a}}
}
func in(not bool, l ...api.Term) api.Term { return api.Term{Kind: api.In, Not: not, Args: l} }
func great() api.Term                     { return binary("+", num(math.MaxInt64), num(1)) }

// book has a table of 100 rows, one of 30, one whose numbers may not be, one of great numbers.
func book() api.Book {
	return api.Book{Tables: []api.Table{
		{Rows: 100, Columns: []api.Column{{Distinct: 20, Nulls: 10}, {Distinct: 0, Nulls: 100}, {Distinct: 1}}},
		{Rows: 30, Columns: []api.Column{{Distinct: 25, Nulls: 99}, {Distinct: 3}}},
		{Rows: -5, Columns: []api.Column{{Distinct: -3, Nulls: -1}}},
		{Rows: math.MaxInt64, Columns: []api.Column{{Distinct: math.MaxInt64, Nulls: -4}}},
	}}
}

// tables are those of the book, then two that aren't there.
func tables() []int { return []int{0, 1, 2, 3, 4, -1} }

func TestShares(t *testing.T) { // P20.1
	a, c := field(0, 0), num(5)
	r := func(n, d uint64) api.Ratio { return api.Ratio{Num: n, Den: d} }
	for i, x := range []struct {
		t    api.Term
		want api.Ratio
	}{
		{bit(1), r(1, 1)}, {bit(0), r(0, 1)}, {lit(api.Value{}), r(0, 1)}, {num(1), r(0, 1)}, {lit(api.Value{Kind: api.Text, Text: "a"}), r(0, 1)}, {binary("=", num(1), num(1)), r(1, 1)}, {binary("=", num(1), num(2)), r(0, 1)}, {binary("=", num(1), lit(api.Value{})), r(0, 1)}, {binary("+", num(1), num(1)), r(0, 1)}, {binary(">", great(), num(0)), r(1, 1)}, {great(), r(1, 1)}, {not(bit(0)), r(1, 1)}, {not(bit(1)), r(0, 1)}, {in(true, num(1), num(2)), r(1, 1)}, {isNull(false, num(1)), r(0, 1)}, {api.Term{}, r(1, 1)},
		{binary("=", a, field(1, 0)), r(1, 25)}, {binary("=", field(1, 1), a), r(1, 20)}, {binary("=", field(0, 1), field(2, 0)), r(1, 1)}, {binary("=", a, field(0, 1)), r(1, 3)}, {binary("<>", a, field(1, 0)), r(1, 3)}, {binary("=", a, field(4, 0)), r(1, 3)}, {binary("=", field(1, 7), a), r(1, 3)}, {binary("=", a, field(-1, 0)), r(1, 3)},
		{binary("=", a, c), r(1, 20)}, {binary("=", c, a), r(1, 20)}, {binary("=", a, great()), r(1, 20)}, {binary("=", field(0, 1), c), r(1, 1)}, {binary("=", field(2, 0), c), r(1, 1)}, {binary("<>", a, c), r(19, 20)}, {binary("<>", c, a), r(19, 20)}, {binary("<>", field(0, 1), c), r(0, 1)}, {binary("<>", field(0, 2), c), r(0, 1)}, {binary("<>", field(2, 0), c), r(0, 1)}, {binary("=", field(0, 3), c), r(1, 3)}, {binary("=", field(0, -1), c), r(1, 3)}, {binary("=", field(5, 0), c), r(1, 3)}, {binary("<>", c, field(9, 0)), r(1, 3)}, {binary("=", field(3, 0), c), r(1, math.MaxInt64)},
		{binary("<", a, c), r(1, 3)}, {binary("<=", c, a), r(1, 3)}, {binary(">", a, c), r(1, 3)}, {binary(">=", a, field(1, 0)), r(1, 3)}, {binary("=", binary("+", a, c), c), r(1, 3)}, {binary("?", a, c), r(1, 3)},
		{isNull(false, a), r(10, 100)}, {isNull(true, a), r(90, 100)}, {isNull(false, field(0, 1)), r(100, 100)}, {isNull(true, field(0, 1)), r(0, 100)}, {isNull(false, field(1, 0)), r(30, 30)}, {isNull(true, field(1, 0)), r(0, 30)}, {isNull(false, field(2, 0)), r(0, 1)}, {isNull(true, field(2, 0)), r(0, 1)}, {isNull(true, field(3, 0)), r(math.MaxInt64, math.MaxInt64)}, {isNull(false, field(4, 0)), r(1, 3)}, {isNull(true, binary("+", a, c)), r(1, 3)}, {api.Term{Kind: api.IsNull, Args: []api.Term{a, a}}, r(1, 3)},
		{in(false, a, c, c, num(1)), r(3, 20)}, {in(true, a, c, c), r(1, 1)}, {in(false, field(0, 2), c, c, c), r(1, 1)}, {in(false, field(0, 1), c), r(1, 1)}, {in(false, a, c, field(1, 0)), r(1, 3)}, {in(true, a, field(0, 1)), r(1, 3)}, {in(false, field(4, 0), c), r(1, 3)}, {in(false, c, a), r(1, 3)}, {in(false, a), r(0, 20)}, {in(false, field(1, 1), c, c, c, c), r(3, 3)},
		{binary("AND", binary("=", a, c), binary("<", a, c)), r(1, 60)}, {binary("AND", binary("<>", a, c), isNull(false, a)), r(190, 2000)}, {binary("AND", bit(0), binary("=", a, c)), r(0, 20)}, {binary("OR", binary("=", a, c), binary("<", a, c)), r(1, 3)}, {binary("OR", binary("<", a, c), binary("=", a, c)), r(1, 3)}, {binary("OR", isNull(false, field(0, 1)), bit(1)), r(100, 100)}, {binary("OR", not(a), isNull(false, field(0, 1))), r(1, 1)},
		{not(binary("=", a, c)), r(1, 1)}, {not(a), r(1, 1)}, {a, r(1, 3)}, {api.Term{Kind: api.Total}, r(1, 3)}, {api.Term{Kind: api.Unary, Op: "-", Args: []api.Term{a}}, r(1, 3)}, {api.Term{Kind: 99, Args: []api.Term{a}}, r(1, 3)}, {api.Term{Kind: api.Binary, Op: "AND", Args: []api.Term{a}}, r(1, 3)}, {api.Term{Kind: api.Unary, Op: "NOT", Args: []api.Term{a, a}}, r(1, 3)},
		{binary("AND", binary("=", field(3, 0), c), binary("AND", binary("=", field(3, 0), c), binary("=", field(3, 0), c))), r(1, math.MaxUint64)},
	} {
		if got := Of(book(), tables(), x.t); got != x.want {
			t.Error(i, got, x.want)
		}
	}
	if got := Of(api.Book{}, nil, binary("=", a, c)); got != r(1, 3) {
		t.Error("no book", got)
	}
}

func TestRows(t *testing.T) { // P20.1
	a, b := field(0, 0), field(1, 0)
	k := func(l ...api.Term) api.Block { return api.Block{Tables: tables(), Where: l} }
	for i, x := range []struct {
		k    api.Block
		set  uint32
		want uint64
	}{
		{k(), 0, 1}, {k(), 1, 100}, {k(), 3, 3000}, {k(), 1 | 16, 100}, {k(), 1 | 32 | 1<<30, 100}, {k(), 4, 1}, {k(), 5, 1}, {k(), 8, math.MaxInt64}, {k(), 9, math.MaxUint64}, {k(), 13, 1}, {k(), math.MaxUint32, 1},
		{k(binary("=", a, num(1))), 1, 5}, {k(binary("=", a, num(1))), 3, 150}, {k(binary("=", a, num(1))), 2, 30}, {k(binary("=", a, b)), 1, 100}, {k(binary("=", a, b)), 3, 120}, {k(bit(0)), 1, 1}, {k(bit(0)), 0, 1}, {k(binary("<", a, num(1))), 1, 33}, {k(binary("<", a, num(1)), binary("<", a, num(2))), 1, 11}, {k(binary("=", a, num(1)), binary("=", a, num(1)), binary("=", a, num(1))), 1, 1}, {k(isNull(false, field(0, 1))), 1, 100},
		{k(binary("=", field(31, 0), num(1))), 1, 100}, {k(binary("<", field(99, 0), num(1))), 1, 33},
	} {
		if got := Rows(book(), x.k, x.set); got != x.want {
			t.Error(i, got, x.want)
		}
	}
	big := api.Block{Tables: make([]int, 40)}
	if Rows(api.Book{Tables: []api.Table{{Rows: 2}}}, big, math.MaxUint32) != 1<<32 {
		t.Error("32 tables")
	}
}

func TestPart(t *testing.T) { // P20.1
	a := field(0, 0)
	k := api.Block{Tables: tables(), Where: []api.Term{binary("=", a, num(5)), binary("<", a, num(7)), bit(0), binary("=", a, field(1, 0))}}
	for _, x := range []struct {
		table int
		conds []int
		want  uint64
	}{{0, nil, 100}, {0, []int{0}, 5}, {0, []int{1}, 33}, {0, []int{1, 0}, 1}, {0, []int{2}, 1}, {0, []int{3}, 4}, {0, []int{9, -1, math.MaxInt, 0}, 5}, {1, []int{1}, 10}, {2, nil, 1}, {4, nil, 1}, {5, []int{0}, 1}, {6, nil, 1}, {-1, nil, 1}, {math.MaxInt, nil, 1}, {3, nil, math.MaxInt64}} {
		if got := Part(book(), k, x.table, x.conds); got != x.want {
			t.Error(x, got)
		}
	}
}

func TestSums(t *testing.T) { // P20.1
	l := []uint64{0, 1, 2, 3, 1 << 31, 1<<32 - 1, 1 << 32, 1 << 63, math.MaxUint64 - 1, math.MaxUint64}
	most := new(big.Int).SetUint64(math.MaxUint64)
	bounded := func(n *big.Int) uint64 {
		if n.Cmp(most) > 0 {
			return math.MaxUint64
		}
		return n.Uint64()
	}
	for _, a := range l {
		for _, b := range l {
			x, y := new(big.Int).SetUint64(a), new(big.Int).SetUint64(b)
			if Add(a, b) != bounded(new(big.Int).Add(x, y)) || Mul(a, b) != bounded(new(big.Int).Mul(x, y)) {
				t.Error(a, b, Add(a, b), Mul(a, b))
			}
		}
	}
}

// terms are random conditions.
func terms(r *rand.Rand, deep int) api.Term {
	f := field(r.Intn(7)-1, r.Intn(4)-1)
	if deep == 0 {
		return []api.Term{f, num(int64(r.Intn(3))), bit(1), isNull(r.Intn(2) == 0, f), in(r.Intn(2) == 0, f, num(1), num(2)), binary("=", f, field(r.Intn(4), 0)), binary([]string{"=", "<>", "<"}[r.Intn(3)], num(1), f)}[r.Intn(7)]
	}
	sub := func() api.Term { return terms(r, r.Intn(deep)) }
	return []api.Term{binary("AND", sub(), sub()), binary("OR", sub(), sub()), not(sub()), sub()}[r.Intn(4)]
}

func TestNoMore(t *testing.T) { // P20.2
	r := rand.New(rand.NewSource(20))
	numbers := []int{math.MinInt64, -1, 0, 1, 2, 7, 100, math.MaxInt32, math.MaxInt64}
	pick := func() int { return numbers[r.Intn(len(numbers))] }
	for range 3000 {
		b := book()
		for i := range b.Tables {
			b.Tables[i].Rows = pick()
			for c := range b.Tables[i].Columns {
				b.Tables[i].Columns[c] = api.Column{Distinct: pick(), Nulls: pick()}
			}
		}
		k := api.Block{Tables: tables()}
		for range 4 {
			x := terms(r, 4)
			if s := Of(b, k.Tables, x); s.Num > s.Den || s.Den == 0 {
				t.Fatal("a share of more than all", s)
			}
			before, part := Rows(b, k, 15), Part(b, k, 0, []int{0, 1, 2})
			k.Where = append(slices.Clone(k.Where), x)
			if Rows(b, k, 15) > before || Part(b, k, 0, []int{0, 1, 2, 3}) > part || before == 0 {
				t.Fatal("more rows with a condition more")
			}
		}
	}
}
