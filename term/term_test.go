package term

import (
	"math"
	"math/rand"
	"strconv"
	"strings"
	"testing"

	"rowlock/api"
	"rowlock/logic"
)

func num(n int64) api.Value   { return api.Value{Kind: api.Int, Int: n} }
func bit(n int64) api.Value   { return api.Value{Kind: api.Bool, Int: n} }
func text(s string) api.Value { return api.Value{Kind: api.Text, Text: s} }
func lit(v api.Value) api.Term {
	return api.Term{Kind: api.Literal, Value: v}
}
func field(table, column int) api.Term {
	return api.Term{Kind: api.Field, Table: table, Column: column}
}
func unary(op string, a api.Term) api.Term {
	return api.Term{Kind: api.Unary, Op: op, Args: []api.Term{a}}
}
func binary(op string, a, b api.Term) api.Term {
	return api.Term{Kind: api.Binary, Op: op, Args: []api.Term{a, b}}
}
func in(not bool, l ...api.Term) api.Term { return api.Term{Kind: api.In, Not: not, Args: l} }
func isNull(not bool, a api.Term) api.Term {
	return api.Term{Kind: api.IsNull, Not: not, Args: []api.Term{a}}
}

// wrong is a term that is so: a number that is too great.
func wrong() api.Term { return binary("+", lit(num(math.MaxInt64)), lit(num(1))) }

// show is a term as a text, as far as errors need it.
func show(t api.Term) string {
	s := strconv.Itoa(int(t.Kind)) + t.Op
	for _, a := range t.Args {
		s += " (" + show(a) + ")"
	}
	return s
}

func TestEval(t *testing.T) { // P18.1
	rows := [][]api.Value{{num(4), {}, text("a")}, nil, {bit(1), bit(0)}}
	totals := []api.Value{num(9), {}}
	null, yes, no := lit(api.Value{}), lit(bit(1)), lit(bit(0))
	odd := api.Value{Int: 7, Text: "x"}
	for _, x := range []struct {
		t    api.Term
		want api.Value
		ok   bool
	}{
		{lit(num(3)), num(3), true}, {null, api.Value{}, true}, {field(0, 0), num(4), true}, {field(0, 1), api.Value{}, true}, {field(2, 1), bit(0), true}, {field(0, 3), api.Value{}, false}, {field(1, 0), api.Value{}, false}, {field(3, 0), api.Value{}, false}, {field(-1, 0), api.Value{}, false}, {field(0, -1), api.Value{}, false}, {field(math.MaxInt, math.MinInt), api.Value{}, false},
		{api.Term{Kind: api.Total}, num(9), true}, {api.Term{Kind: api.Total, Column: 1}, api.Value{}, true}, {api.Term{Kind: api.Total, Column: 2}, api.Value{}, false}, {api.Term{Kind: api.Total, Column: -1}, api.Value{}, false},
		{unary("-", lit(num(5))), num(-5), true}, {unary("-", lit(num(math.MinInt64))), api.Value{}, false}, {unary("-", lit(odd)), odd, true}, {unary("-", yes), api.Value{}, false}, {unary("-", lit(text("1"))), api.Value{}, false}, {unary("-", wrong()), api.Value{}, false}, {unary("-", lit(api.Value{Kind: 9})), api.Value{}, false},
		{binary("+", field(0, 0), lit(num(1))), num(5), true}, {binary("-", field(0, 0), lit(num(6))), num(-2), true}, {binary("*", field(0, 0), lit(num(-3))), num(-12), true}, {wrong(), api.Value{}, false}, {binary("*", null, wrong()), api.Value{}, false}, {binary("+", wrong(), null), api.Value{}, false}, {binary("-", null, lit(num(1))), api.Value{}, true}, {binary("+", yes, lit(num(1))), api.Value{}, false},
		{binary("=", field(0, 0), lit(num(4))), bit(1), true}, {binary("<>", field(0, 0), lit(num(4))), bit(0), true}, {binary("<", lit(num(3)), field(0, 0)), bit(1), true}, {binary(">=", lit(text("a")), lit(text("b"))), bit(0), true}, {binary("<=", yes, no), bit(0), true}, {binary(">", yes, no), bit(1), true}, {binary("=", null, null), api.Value{}, true}, {binary("=", yes, lit(num(1))), api.Value{}, false}, {binary("=", null, wrong()), api.Value{}, false}, {binary("<", wrong(), null), api.Value{}, false},
		{isNull(false, null), bit(1), true}, {isNull(true, null), bit(0), true}, {isNull(false, no), bit(0), true}, {isNull(true, lit(num(0))), bit(1), true}, {isNull(false, wrong()), api.Value{}, false}, {isNull(true, wrong()), api.Value{}, false}, {isNull(false, lit(api.Value{Kind: 9})), bit(0), true},
		{in(false, lit(num(1)), lit(num(2)), lit(num(1))), bit(1), true}, {in(true, lit(num(1)), lit(num(2)), lit(num(1))), bit(0), true}, {in(false, lit(num(1)), lit(num(2))), bit(0), true}, {in(false, lit(num(1)), lit(num(2)), null), api.Value{}, true}, {in(true, lit(num(1)), lit(num(2)), null), api.Value{}, true}, {in(false, lit(num(1)), null, lit(num(1))), bit(1), true}, {in(false, null, lit(num(1))), api.Value{}, true},
		{in(false, lit(num(1)), wrong(), lit(num(1))), bit(1), true}, {in(false, lit(num(1)), wrong(), null), api.Value{}, true}, {in(false, lit(num(1)), wrong(), lit(num(2))), api.Value{}, false}, {in(true, wrong(), lit(num(2))), api.Value{}, false}, {in(false, lit(num(1))), bit(0), true}, {in(true, lit(num(1))), bit(1), true},
		{unary("NOT", yes), bit(0), true}, {unary("NOT", no), bit(1), true}, {unary("NOT", null), api.Value{}, true}, {unary("NOT", wrong()), api.Value{}, false}, {unary("NOT", lit(num(1))), api.Value{}, false},
		{binary("AND", no, wrong()), bit(0), true}, {binary("AND", wrong(), no), bit(0), true}, {binary("AND", null, wrong()), api.Value{}, true}, {binary("AND", yes, wrong()), api.Value{}, false}, {binary("AND", yes, yes), bit(1), true}, {binary("AND", lit(num(1)), no), bit(0), true}, {binary("AND", lit(num(1)), yes), api.Value{}, false},
		{binary("OR", wrong(), yes), bit(1), true}, {binary("OR", null, wrong()), api.Value{}, true}, {binary("OR", no, wrong()), api.Value{}, false}, {binary("OR", no, no), bit(0), true}, {binary("OR", lit(text("a")), yes), bit(1), true},
		{api.Term{}, api.Value{}, false}, {api.Term{Kind: 99}, api.Value{}, false}, {unary("+", lit(num(1))), api.Value{}, false}, {unary("AND", yes), api.Value{}, false}, {binary("NOT", yes, yes), api.Value{}, false}, {binary("/", lit(num(1)), null), api.Value{}, false}, {binary("", null, null), api.Value{}, false}, {api.Term{Kind: api.Unary, Op: "-"}, api.Value{}, false}, {api.Term{Kind: api.Unary, Op: "NOT", Args: []api.Term{yes, yes}}, api.Value{}, false},
		{api.Term{Kind: api.Binary, Op: "+", Args: []api.Term{lit(num(1))}}, api.Value{}, false}, {api.Term{Kind: api.Binary, Op: "AND", Args: []api.Term{no, no, no}}, api.Value{}, false}, {api.Term{Kind: api.Binary, Op: "=", Args: nil}, api.Value{}, false}, {api.Term{Kind: api.IsNull}, api.Value{}, false}, {api.Term{Kind: api.IsNull, Args: []api.Term{yes, yes}}, api.Value{}, false}, {api.Term{Kind: api.In}, api.Value{}, false}, {api.Term{Kind: api.In, Not: true}, api.Value{}, false},
	} {
		if got, ok := Eval(x.t, rows, totals); got != x.want || ok != x.ok {
			t.Errorf("%s: %v, %v, not %v, %v", show(x.t), got, ok, x.want, x.ok)
		}
	}
}

func TestTruth(t *testing.T) { // P18.1
	rows := [][]api.Value{{num(math.MaxInt64)}}
	great := binary(">", binary("+", field(0, 0), lit(num(1))), lit(num(0)))
	for _, x := range []struct {
		t    api.Term
		want api.Truth
	}{{lit(bit(0)), api.False}, {lit(api.Value{}), api.Unknown}, {lit(num(1)), api.Wrong}, {lit(bit(1)), api.True}, {great, api.Wrong}, {binary("AND", lit(bit(0)), great), api.False}, {api.Term{Kind: api.Total}, api.Wrong}, {api.Term{}, api.Wrong}} {
		if got := Truth(x.t, rows); got != x.want {
			t.Error(show(x.t), got)
		}
	}
	if Holds(nil, nil) != api.True || Holds([]api.Term{great, lit(bit(0))}, rows) != api.False || Holds([]api.Term{great, lit(bit(1))}, rows) != api.Wrong || Holds([]api.Term{lit(api.Value{}), great}, rows) != api.Unknown {
		t.Error("holds")
	}
}

// terms are random ones, of all kinds, some of them wrong.
type terms struct{ *rand.Rand }

func (r terms) value() api.Value {
	return []api.Value{{}, num(0), num(2), num(math.MaxInt64), num(math.MinInt64), bit(0), bit(1), text("a")}[r.Intn(8)]
}

func (r terms) term(deep int) api.Term {
	if deep == 0 {
		if r.Intn(3) == 0 {
			return field(r.Intn(2), r.Intn(4))
		}
		return lit(r.value())
	}
	sub := func() api.Term { return r.term(r.Intn(deep)) }
	switch r.Intn(7) {
	case 0:
		return unary([]string{"-", "NOT", "?"}[r.Intn(3)], sub())
	case 1:
		return in(r.Intn(2) == 0, sub(), sub(), sub())
	case 2:
		return isNull(r.Intn(2) == 0, sub())
	case 3:
		x := field(r.Intn(2), r.Intn(3))
		x.Args = []api.Term{sub()}
		return x
	}
	return binary([]string{"+", "-", "*", "=", "<>", "<", ">=", "AND", "OR"}[r.Intn(9)], sub(), sub())
}

func (r terms) rows() [][]api.Value {
	return [][]api.Value{{r.value(), r.value(), r.value()}, {r.value(), r.value(), r.value(), r.value()}}
}

func TestFolded(t *testing.T) { // P18.2
	r := terms{rand.New(rand.NewSource(18))}
	for range 4000 {
		x := r.term(5)
		before := show(x)
		f := Fold(x)
		for range 4 {
			rows := r.rows()
			v, ok := Eval(x, rows, nil)
			if w, fine := Eval(f, rows, nil); v != w || ok != fine {
				t.Fatalf("%s: %v, %v; %s: %v, %v", before, v, ok, show(f), w, fine)
			}
		}
		if show(x) != before {
			t.Fatal("the term changed", before)
		}
		left(t, f)
	}
}

// left fails, if a constant part that isn't wrong is left in a folded term.
func left(t *testing.T, x api.Term) {
	t.Helper()
	if _, ok := Eval(x, nil, nil); ok && Constant(x) && x.Kind != api.Literal {
		t.Fatal("left:", show(x))
	}
	for _, a := range x.Args {
		left(t, a)
	}
}

func TestFold(t *testing.T) { // P18.1
	sum := binary("+", lit(num(1)), lit(num(2)))
	f := Fold(binary("*", field(0, 0), sum))
	if len(f.Args) != 2 || f.Args[0].Kind != api.Field || f.Args[1].Kind != api.Literal || f.Args[1].Value != num(3) || len(f.Args[1].Args) != 0 {
		t.Error(show(f))
	}
	if f := Fold(sum); f.Kind != api.Literal || f.Value != num(3) || f.Op != "" || f.Args != nil {
		t.Error(show(f))
	}
	if f := Fold(binary("=", wrong(), sum)); f.Kind != api.Binary || f.Args[0].Kind != api.Binary || f.Args[1].Kind != api.Literal {
		t.Error("a wrong part stays, others don't", show(f))
	}
	holder := lit(num(7))
	holder.Args = []api.Term{sum}
	if f := Fold(holder); f.Kind != api.Literal || f.Value != num(7) || len(f.Args) != 1 || f.Args[0].Kind != api.Literal {
		t.Error("what a literal has as arguments", show(f))
	}
	holder = field(0, 0)
	holder.Args = []api.Term{sum, field(0, 1)}
	if f := Fold(holder); f.Kind != api.Field || f.Args[0].Value != num(3) || f.Args[1].Kind != api.Field {
		t.Error("what a field has as arguments", show(f))
	}
	if f := Fold(in(false, field(0, 0), sum, wrong())); f.Args[1].Value != num(3) || f.Args[2].Kind != api.Binary {
		t.Error(show(f))
	}
	total := api.Term{Kind: api.Total, Op: "SUM", Args: []api.Term{sum}}
	if f := Fold(total); f.Kind != api.Total || f.Args[0].Kind != api.Literal {
		t.Error(show(f))
	}
	if f := Fold(api.Term{}); f.Kind != 0 {
		t.Error(show(f))
	}
}

func TestConstant(t *testing.T) { // P18.1
	holder := lit(num(7))
	holder.Args = []api.Term{field(0, 0)}
	for _, x := range []struct {
		t    api.Term
		want bool
	}{{lit(num(1)), true}, {api.Term{}, true}, {field(0, 0), false}, {api.Term{Kind: api.Total}, false}, {wrong(), true}, {in(false, lit(num(1)), field(0, 0)), false}, {unary("-", unary("-", api.Term{Kind: api.Total})), false}, {isNull(false, lit(num(1))), true}, {holder, false}} {
		if Constant(x.t) != x.want {
			t.Error(show(x.t))
		}
	}
}

func TestOrder(t *testing.T) { // P18.3
	r := terms{rand.New(rand.NewSource(19))}
	for range 2000 {
		var l []api.Term
		for range r.Intn(5) {
			l = append(l, r.term(2))
		}
		rows := r.rows()
		want := api.True
		for _, x := range l {
			want = logic.And(want, Truth(x, rows))
		}
		for range 3 {
			r.Shuffle(len(l), func(i, k int) { l[i], l[k] = l[k], l[i] })
			if got := Holds(l, rows); got != want {
				t.Fatal(got, want)
			}
		}
	}
}

// TestNested: a term is asked once, however often others are held against it.
func TestNested(t *testing.T) { // P18.1
	x := lit(bit(1))
	for range 31 {
		x = in(false, x, lit(bit(0)), lit(bit(0)), lit(bit(0)), lit(bit(1)), lit(bit(0)))
	}
	if v, ok := Eval(x, nil, nil); v != bit(1) || !ok {
		t.Error(v, ok)
	}
	if s := show(Fold(x)); strings.Contains(s, "(") {
		t.Error(s)
	}
}
