package parse

import (
	"math/rand"
	"slices"
	"strconv"
	"strings"
	"testing"

	"rowlock/api"
	"rowlock/lex"
)

func num(n int64) api.Term { return literal(api.Value{Kind: api.Int, Int: n}) }
func field(of, name string) api.Term {
	return api.Term{Kind: api.Field, Of: of, Name: name}
}

// where is the tree of a condition.
func where(t *testing.T, s string) api.Term {
	t.Helper()
	q, e := Parse("SELECT * FROM t WHERE " + s)
	if e != api.OK || q.Where == nil {
		t.Fatalf("%s: %v", s, e)
	}
	return *q.Where
}

func TestQuery(t *testing.T) { // P16.1
	a, x := field("", "a"), field("t", "x")
	for s, want := range map[string]api.Query{
		"SELECT * FROM t":                                          {All: true, From: []api.From{{Table: "t", Name: "t"}}, Limit: -1},
		"SELECT DISTINCT a, t.x AS y FROM t":                       {Distinct: true, Items: []api.Item{{Term: a}, {Term: x, Name: "y"}}, From: []api.From{{Table: "t", Name: "t"}}, Limit: -1},
		"SELECT a FROM t u, v AS w, v":                             {Items: []api.Item{{Term: a}}, From: []api.From{{Table: "t", Name: "u"}, {Table: "v", Name: "w"}, {Table: "v", Name: "v"}}, Limit: -1},
		"SELECT a FROM t WHERE a LIMIT 0":                          {Items: []api.Item{{Term: a}}, From: []api.From{{Table: "t", Name: "t"}}, Where: &a, Limit: 0},
		"SELECT a FROM t GROUP BY a,t . x":                         {Items: []api.Item{{Term: a}}, From: []api.From{{Table: "t", Name: "t"}}, Group: []api.Term{a, x}, Limit: -1},
		"SELECT a FROM t ORDER BY a,2 DESC,b ASC,16 LIMIT 1000000": {Items: []api.Item{{Term: a}}, From: []api.From{{Table: "t", Name: "t"}}, Order: []api.Key{{Name: "a"}, {Item: 2, Down: true}, {Name: "b"}, {Item: 16}}, Limit: 1000000},
		"SELECT 1 FROM t WHERE x GROUP BY a ORDER BY b LIMIT 7":    {Items: []api.Item{{Term: num(1)}}, From: []api.From{{Table: "t", Name: "t"}}, Where: &api.Term{Kind: api.Field, Name: "x"}, Group: []api.Term{a}, Order: []api.Key{{Name: "b"}}, Limit: 7},
	} {
		if q, e := Parse(s); e != api.OK || !Same(q, want) {
			t.Errorf("%s: %v, %v", s, q, e)
		}
	}
}

func TestTerms(t *testing.T) { // P16.1
	a, b, c := field("", "a"), field("", "b"), field("", "c")
	total := func(op string, l ...api.Term) api.Term { return api.Term{Kind: api.Total, Op: op, Args: l} }
	for s, want := range map[string]api.Term{
		"a + 1 > 2": binary(">", binary("+", a, num(1)), num(2)), "a - b + c": binary("+", binary("-", a, b), c), "a * b * c": binary("*", binary("*", a, b), c), "a + b * c": binary("+", a, binary("*", b, c)), "a*b-c": binary("-", binary("*", a, b), c), "a-(b-c)": binary("-", a, binary("-", b, c)),
		"a OR b OR c": binary("OR", binary("OR", a, b), c), "a OR b AND c": binary("OR", a, binary("AND", b, c)), "a AND b AND c": binary("AND", binary("AND", a, b), c), "(a OR b) AND c": binary("AND", binary("OR", a, b), c),
		"NOT a AND b": binary("AND", unary("NOT", a), b), "NOT NOT a": unary("NOT", unary("NOT", a)), "NOT a = b": unary("NOT", binary("=", a, b)), "(NOT a) = b": binary("=", unary("NOT", a), b),
		"-5": num(-5), "- 5": num(-5), "-0": num(0), "--5": unary("-", num(-5)), "-(5)": unary("-", num(5)), "-a * b": binary("*", unary("-", a), b), "-(-a)": unary("-", unary("-", a)), "a - 5": binary("-", a, num(5)), "a - -5": binary("-", a, num(-5)), "a*-5": binary("*", a, num(-5)), "-9223372036854775807": num(-9223372036854775807),
		"a = b": binary("=", a, b), "a <> b": binary("<>", a, b), "a < b": binary("<", a, b), "a <= b": binary("<=", a, b), "a > b": binary(">", a, b), "a >= b": binary(">=", a, b),
		"a IS NULL": {Kind: api.IsNull, Args: []api.Term{a}}, "a+b IS NOT NULL": {Kind: api.IsNull, Not: true, Args: []api.Term{binary("+", a, b)}}, "NOT a IS NULL": unary("NOT", api.Term{Kind: api.IsNull, Args: []api.Term{a}}),
		"a IN (1)": {Kind: api.In, Args: []api.Term{a, num(1)}}, "a NOT IN (b, -2)": {Kind: api.In, Not: true, Args: []api.Term{a, b, num(-2)}}, "a IN (NULL, (b = c))": {Kind: api.In, Args: []api.Term{a, literal(api.Value{}), binary("=", b, c)}},
		"a BETWEEN 1 AND b": binary("AND", binary(">=", a, num(1)), binary("<=", a, b)), "a NOT BETWEEN b AND c": unary("NOT", binary("AND", binary(">=", a, b), binary("<=", a, c))), "a BETWEEN b AND c AND b": binary("AND", binary("AND", binary(">=", a, b), binary("<=", a, c)), b),
		"'it''s'": literal(api.Value{Kind: api.Text, Text: "it's"}), "'NOT'": literal(api.Value{Kind: api.Text, Text: "NOT"}), "NULL": literal(api.Value{}), "TRUE": literal(api.Value{Kind: api.Bool, Int: 1}), "FALSE": literal(api.Value{Kind: api.Bool}), "a.b": field("a", "b"),
		"COUNT(*)": total("COUNT"), "COUNT(a)": total("COUNT", a), "SUM(a + 1)": total("SUM", binary("+", a, num(1))), "MIN(a OR b)": total("MIN", binary("OR", a, b)), "MAX(COUNT(*))": total("MAX", total("COUNT")),
	} {
		if got := where(t, s); !SameTerm(got, want) {
			t.Errorf("%s: %s", s, Text(got))
		}
	}
}

func TestSyntax(t *testing.T) { // P16.1
	for _, s := range []string{
		"", "SELECT", "SELECT a", "SELECT FROM t", "SELECT a FROM", "SELECT a, FROM t", "SELECT *, a FROM t", "SELECT a b FROM t", "SELECT a AS FROM t", "SELECT a AS 'b' FROM t", "SELECT DISTINCT FROM t", "DISTINCT a FROM t", "a", "SELECT a FROM t t t", "SELECT a FROM t AS", "SELECT a FROM t,", "SELECT a FROM 't'",
		"SELECT a FROM t WHERE", "SELECT a FROM t WHERE a b", "SELECT a FROM t WHERE a = b = c", "SELECT a FROM t WHERE a = ", "SELECT a FROM t WHERE a IS", "SELECT a FROM t WHERE a IS TRUE", "SELECT a FROM t WHERE a NOT", "SELECT a FROM t WHERE a NOT NULL", "SELECT a FROM t WHERE a IN b", "SELECT a FROM t WHERE a IN ()", "SELECT a FROM t WHERE a IN (1", "SELECT a FROM t WHERE a IN (1,)", "SELECT a FROM t WHERE a IN (b = c)",
		"SELECT a FROM t WHERE a BETWEEN 1", "SELECT a FROM t WHERE a BETWEEN 1 OR 2", "SELECT a FROM t WHERE (a", "SELECT a FROM t WHERE a)", "SELECT a FROM t WHERE ()", "SELECT a FROM t WHERE a.", "SELECT a FROM t WHERE .a", "SELECT a FROM t WHERE a.b.c", "SELECT a FROM t WHERE a + NOT b", "SELECT a FROM t WHERE - NOT b", "SELECT a FROM t WHERE +a",
		"SELECT SUM(*) FROM t", "SELECT COUNT FROM t", "SELECT COUNT() FROM t", "SELECT COUNT(* FROM t", "SELECT MIN(a, b) FROM t", "SELECT a FROM t GROUP a", "SELECT a FROM t GROUP BY", "SELECT a FROM t GROUP BY 1", "SELECT a FROM t GROUP BY a + 1", "SELECT a FROM t GROUP BY a,", "SELECT a FROM t ORDER a", "SELECT a FROM t ORDER BY", "SELECT a FROM t ORDER BY a.b", "SELECT a FROM t ORDER BY -1", "SELECT a FROM t ORDER BY a ASC DESC",
		"SELECT a FROM t LIMIT", "SELECT a FROM t LIMIT -1", "SELECT a FROM t LIMIT a", "SELECT a FROM t LIMIT 1 1", "SELECT a FROM t LIMIT 1 WHERE a", "SELECT a FROM t ORDER BY a GROUP BY a", "SELECT a FROM t WHERE a;", "SELECT a FROM t WHERE 'a' 'b'", "select a FROM t", "SELECT a FROM t ORDER BY 0 ASC;", "SELECT a FROM t WHERE a = 1 IS NULL", "SELECT a FROM t WHERE a IN (1) IN (2)",
	} {
		if q, e := Parse(s); e != api.ErrSyntax || !Same(q, api.Query{}) {
			t.Errorf("%s: %v", s, e)
		}
	}
}

// times is a text so many times, with commas between.
func times(s string, n int) string { return strings.Repeat(s+", ", n-1) + s }

func TestErrors(t *testing.T) { // P16.1
	for s, want := range map[string]api.Errno{
		strings.Repeat(" ", 4097): api.ErrLong, "SELECT 9223372036854775808 FROM t": api.ErrRange, "SELECT FROM FROM '" + strings.Repeat("a", 49) + "'": api.ErrLong, "FROM " + strings.Repeat("a ", 1000): api.ErrMany,
		"SELECT " + times("a", 16) + " FROM t": api.OK, "SELECT " + times("a", 17) + " FROM t": api.ErrMany, "SELECT " + times("a", 16) + ",": api.ErrMany, "SELECT " + times("a", 16) + ", ) x": api.ErrMany,
		"SELECT a FROM " + times("t", 16): api.OK, "SELECT a FROM " + times("t", 17): api.ErrMany, "SELECT a FROM t GROUP BY " + times("a", 16): api.OK, "SELECT a FROM t GROUP BY " + times("a", 16) + ",": api.ErrMany,
		"SELECT a FROM t ORDER BY " + times("1", 16): api.OK, "SELECT a FROM t ORDER BY " + times("a", 16) + ",": api.ErrMany, "SELECT a FROM t WHERE a IN (" + times("1", 16) + ")": api.OK, "SELECT a FROM t WHERE a IN (" + times("1", 16) + ",": api.ErrMany,
		"SELECT a FROM t LIMIT 1000000": api.OK, "SELECT a FROM t LIMIT 1000001": api.ErrRange, "SELECT a FROM t LIMIT 9223372036854775807 x": api.ErrRange, "SELECT a FROM t ORDER BY 16": api.OK, "SELECT a FROM t ORDER BY 17": api.ErrRange, "SELECT a FROM t ORDER BY 0": api.ErrRange, "SELECT a FROM t ORDER BY 0 x": api.ErrRange, "SELECT a FROM t ORDER BY 9223372036854775807": api.ErrRange,
		"SELECT a FROM t ORDER BY 0 LIMIT x": api.ErrRange, "SELECT a FROM t x y ORDER BY 0": api.ErrSyntax, "SELECT a FROM t WHERE a IN (1, 2 LIMIT 1000001": api.ErrSyntax,
	} {
		if q, e := Parse(s); e != want || e != api.OK && !Same(q, api.Query{}) {
			t.Errorf("%.60s: %v, not %v", s, e, want)
		}
	}
}

func TestDeep(t *testing.T) { // P16.1
	for _, x := range []struct{ open, mid, end string }{{"(", "1", ")"}, {"NOT ", "a", ""}, {"- ", "a", ""}, {"- ", "-1", ""}, {"COUNT(", "a", ")"}, {"-(", "1", ")"}, {"NOT (", "a", ")"}, {"(-", "a", ")"}, {"1 IN (1, (", "a", "))"}} {
		counts := strings.Count(x.open, "(") + strings.Count(x.open, "NOT") + strings.Count(x.open, "-") - strings.Count(x.open, "IN (")
		for n := range 40 {
			want := api.OK
			if 1+n*counts > 32 {
				want = api.ErrDeep
			}
			s := strings.Repeat(x.open, n) + x.mid + strings.Repeat(x.end, n)
			for _, q := range []string{"SELECT " + s + " FROM t", "SELECT a, " + s + " AS x FROM t", "SELECT 1 FROM t WHERE " + s} {
				if _, e := Parse(q); e != want {
					t.Errorf("%s, %d: %v", x.open, n, e)
				}
			}
		}
	}
	wide := "SELECT " + times("(a)", 16) + " FROM t WHERE (a) AND NOT (a) OR -(a) = (NOT a)"
	if _, e := Parse(wide + strings.Repeat(" AND NOT a", 60)); e != api.OK {
		t.Error("what has ended counts", e)
	}
	if _, e := Parse("SELECT 1 FROM t WHERE " + strings.Repeat("(", 40)); e != api.ErrDeep {
		t.Error("too deep ahead of where it breaks off", e)
	}
	if _, e := Parse("SELECT 1 FROM t WHERE " + strings.Repeat("(", 20) + ")"); e != api.ErrSyntax {
		t.Error("broken off ahead of too deep", e)
	}
}

// TestDeepEnd: what begins too deep is told ahead of the token behind it, whatever that is; one step less deep that token is wrong.
func TestDeepEnd(t *testing.T) { // P16.1
	for _, open := range []string{"(", "NOT ", "- ", "SUM(", "COUNT(", "NOT(", "-("} {
		counts := strings.Count(open, "(") + strings.Count(open, "NOT") + strings.Count(open, "-")
		most := 31 / counts
		for _, from := range []string{"SELECT ", "SELECT a, ", "SELECT a FROM t WHERE "} {
			for _, tail := range []string{"", ")", " FROM t", ", a", " = 1", " OR a", " IN (1)", ". a"} {
				for n, want := range map[int]api.Errno{most: api.ErrSyntax, most + 1: api.ErrDeep, most + 2: api.ErrDeep} {
					q := from + strings.Repeat(open, n) + tail
					if _, e := Parse(q); e != want {
						t.Errorf("%s: %v, not %v", q, e, want)
					}
				}
			}
		}
	}
	// A total of all rows has no or, a number below 0 no minus sign; IN begins none.
	most := "SELECT " + strings.Repeat("(", 31)
	for s, want := range map[string]api.Errno{
		"COUNT(*)": api.OK, "-5": api.OK, "1 IN (2, -3)": api.OK, "COUNT(": api.ErrDeep, "COUNT()": api.ErrDeep, "COUNT(a)": api.ErrDeep, "SUM(*)": api.ErrDeep, "SUM": api.ErrSyntax, "SUM*": api.ErrSyntax, "--5": api.ErrDeep, "-": api.ErrDeep, "-)": api.ErrDeep, "1 IN ()": api.ErrSyntax, "1 IN ((": api.ErrDeep, "1 NOT": api.ErrSyntax, "NOT": api.ErrDeep, ") (": api.ErrSyntax,
	} {
		if _, e := Parse(most + s + strings.Repeat(")", 31) + " FROM t"); e != want {
			t.Errorf("%s: %v, not %v", s, e, want)
		}
	}
}

func TestPrint(t *testing.T) { // P16.1
	for s, want := range map[string]string{
		"SELECT a FROM t GROUP BY a LIMIT 0": "SELECT a FROM t AS t GROUP BY a LIMIT 0", "SELECT 0 - 1, -a FROM t ORDER BY a DESC": "SELECT ( 0 - 1 ) , ( - a ) FROM t AS t ORDER BY a DESC",
		"SELECT * FROM t": "SELECT * FROM t AS t", "SELECT DISTINCT a,t.x AS y FROM t u,v": "SELECT DISTINCT a , t . x AS y FROM t AS u , v AS v", "SELECT -5 FROM t WHERE NOT a LIMIT 5": "SELECT -5 FROM t AS t WHERE ( NOT a ) LIMIT 5",
		"SELECT -(5),--5 FROM t ORDER BY a ASC,2 DESC": "SELECT ( - ( 5 ) ) , ( - -5 ) FROM t AS t ORDER BY a , 2 DESC", "SELECT COUNT(*),SUM(a+1) FROM t GROUP BY a,t.b": "SELECT COUNT ( * ) , SUM ( ( a + 1 ) ) FROM t AS t GROUP BY a , t . b",
		"SELECT 'it''s' FROM t WHERE a IS NOT NULL OR a NOT IN (1,NULL)": "SELECT 'it''s' FROM t AS t WHERE ( ( a IS NOT NULL ) OR ( a NOT IN ( 1 , NULL ) ) )", "SELECT a FROM t WHERE a BETWEEN 1 AND 2": "SELECT a FROM t AS t WHERE ( ( a >= 1 ) AND ( a <= 2 ) )",
	} {
		q, e := Parse(s)
		if got := Print(q); e != api.OK || got != want {
			t.Errorf("%s: %s, %v", s, got, e)
		}
	}
	for _, x := range []api.Term{{}, {Kind: 99}, {Kind: api.Unary}, {Kind: api.Binary, Op: "="}, {Kind: api.In}, {Kind: api.IsNull}, {Kind: api.Total}, {Kind: api.Literal, Value: api.Value{Kind: 9}}} {
		Text(x)
		Print(api.Query{Items: []api.Item{{Term: x}}, Where: &x, Group: []api.Term{x}})
	}
	Print(api.Query{})
}

// texts makes random queries; most of them may be.
type texts struct{ *rand.Rand }

func (r texts) pick(l ...string) string { return l[r.Intn(len(l))] }

func (r texts) term(deep int) string {
	if deep == 0 {
		return r.pick("a", "b", "t . c", "0", "7", "-3", "'x'", "'it''s'", "NULL", "TRUE", "FALSE", "COUNT(*)", strconv.Itoa(r.Intn(1000)))
	}
	sub := func() string { return r.term(r.Intn(deep)) }
	switch r.Intn(12) {
	case 0:
		return "- " + sub()
	case 1:
		return "NOT " + sub()
	case 2:
		return sub() + r.pick("", " NOT") + " IN (" + sub() + ", " + sub() + ")"
	case 3:
		return sub() + " IS " + r.pick("", "NOT ") + "NULL"
	case 4:
		return sub() + r.pick("", " NOT") + " BETWEEN " + sub() + " AND " + sub()
	case 5:
		return r.pick("COUNT", "SUM", "MIN", "MAX") + "(" + sub() + ")"
	case 6, 7:
		return "(" + sub() + ")"
	}
	return sub() + r.pick(" + ", "-", " * ", " = ", "<>", " < ", "<=", " > ", ">=", " AND ", " OR ") + sub()
}

func (r texts) query() string {
	s := "SELECT " + r.pick("", "DISTINCT ") + r.term(4) + r.pick("", " AS x") + ", " + r.term(2) + " FROM t" + r.pick("", " u", " AS u, t")
	if r.Intn(2) == 0 {
		s += " WHERE " + r.term(5)
	}
	return s + r.pick("", " GROUP BY a, t.b", " GROUP BY a") + r.pick("", " ORDER BY x DESC, 2", " ORDER BY 1 ASC") + r.pick("", " LIMIT 3", " LIMIT 0")
}

func TestThereAndBack(t *testing.T) { // P16.2
	r := texts{rand.New(rand.NewSource(16))}
	taken := 0
	for range 6000 {
		s := r.query()
		q, e := Parse(s)
		if e != api.OK {
			continue
		}
		taken++
		again, e := Parse(Print(q))
		if e == api.ErrDeep || e == api.ErrLong || e == api.ErrMany {
			continue
		}
		if e != api.OK || !Same(again, q) {
			t.Fatalf("%s: %s: %v", s, Print(q), e)
		}
		l, _ := lex.Tokens(Print(q))
		if len(l) == 0 {
			t.Fatal("no tokens")
		}
	}
	if taken < 1500 {
		t.Error("too few were taken:", taken)
	}
}

func TestSame(t *testing.T) { // P16.1
	base := func() api.Query {
		q, _ := Parse("SELECT DISTINCT a AS x, -b FROM t, u v WHERE a IN (1) GROUP BY a ORDER BY x LIMIT 3")
		return q
	}
	if !Same(base(), base()) || !Same(api.Query{}, api.Query{Items: []api.Item{}, From: []api.From{}}) {
		t.Error("same")
	}
	for i, do := range []func(q *api.Query){
		func(q *api.Query) { q.Distinct = false }, func(q *api.Query) { q.All = true }, func(q *api.Query) { q.Items = q.Items[:1] }, func(q *api.Query) { q.Items[0].Name = "" }, func(q *api.Query) { q.Items[1].Term.Args[0].Name = "c" }, func(q *api.Query) { q.From[1].Name = "u" }, func(q *api.Query) { q.From[1].Table = "t" },
		func(q *api.Query) { q.Where = nil }, func(q *api.Query) { q.Where.Not = true }, func(q *api.Query) { q.Where.Args[1].Value.Int = 2 }, func(q *api.Query) { q.Where.Args = q.Where.Args[:1] }, func(q *api.Query) { q.Group = nil }, func(q *api.Query) { q.Group[0].Of = "t" }, func(q *api.Query) { q.Order[0].Down = true }, func(q *api.Query) { q.Order = nil }, func(q *api.Query) { q.Limit = -1 },
		func(q *api.Query) { q.Where.Kind = 9 }, func(q *api.Query) { q.Where.Op = "x" }, func(q *api.Query) { q.Where.Table = 1 }, func(q *api.Query) { q.Where.Column = 1 },
	} {
		q := base()
		do(&q)
		if Same(q, base()) || Same(base(), q) {
			t.Error(i)
		}
	}
	l := []api.Term{num(1), num(2), literal(api.Value{}), field("", "a"), field("a", "a"), unary("-", num(1)), binary("-", num(1), num(1)), binary("+", num(1), num(1))}
	for i, a := range l {
		for k, b := range l {
			if SameTerm(a, b) != (i == k) {
				t.Error(i, k)
			}
		}
	}
}

func TestAnyTokens(t *testing.T) { // P16.1: whatever tokens there are, it ends.
	r := rand.New(rand.NewSource(17))
	l := append(lex.Words(), "a", "t", "1", "'x'", "(", ")", ",", ".", "*", "+", "-", "=", "<", "SELECT a FROM t WHERE", "IN (", "BETWEEN 1 AND")
	for range 20000 {
		s := "SELECT "
		for range r.Intn(14) {
			s += l[r.Intn(len(l))] + " "
		}
		if q, e := Parse(s); e != api.OK && !slices.Contains([]api.Errno{api.ErrSyntax, api.ErrDeep, api.ErrMany, api.ErrRange}, e) || e != api.OK && !Same(q, api.Query{}) {
			t.Error(s, e)
		}
	}
}
