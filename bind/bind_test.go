package bind

import (
	"math"
	"slices"
	"testing"

	"rowlock/api"
	"rowlock/parse"
)

// book has the tables a (x Int, y Text, z Bool) and b (x Int, w Int).
func book() api.Book {
	return api.Book{Tables: []api.Table{
		{Name: "a", Columns: []api.Column{{Name: "x", Kind: api.Int}, {Name: "y", Kind: api.Text}, {Name: "z", Kind: api.Bool}}},
		{Name: "b", Columns: []api.Column{{Name: "x", Kind: api.Int}, {Name: "w", Kind: api.Int}}},
	}}
}

func bound(t *testing.T, s string) (api.Block, api.Errno) {
	t.Helper()
	q, e := parse.Parse(s)
	if e != api.OK {
		t.Fatal(s, e)
	}
	return Bind(book(), q)
}

// same tells whether two blocks have the same fields, one by one.
func same(a, b api.Block) bool {
	terms := func(a, b []api.Term) bool { return slices.EqualFunc(a, b, parse.SameTerm) }
	return a.Distinct == b.Distinct && slices.Equal(a.Tables, b.Tables) && terms(a.Items, b.Items) && slices.Equal(a.Names, b.Names) && slices.Equal(a.Kinds, b.Kinds) && terms(a.Where, b.Where) &&
		a.Grouped == b.Grouped && terms(a.Group, b.Group) && terms(a.Totals, b.Totals) && slices.Equal(a.Order, b.Order) && a.Limit == b.Limit
}

func field(of, name string, table, column int) api.Term {
	return api.Term{Kind: api.Field, Of: of, Name: name, Table: table, Column: column}
}
func num(n int64) api.Term {
	return api.Term{Kind: api.Literal, Value: api.Value{Kind: api.Int, Int: n}}
}
func binary(op string, a, b api.Term) api.Term {
	return api.Term{Kind: api.Binary, Op: op, Args: []api.Term{a, b}}
}
func numbered(n int) api.Term { return api.Term{Kind: api.Total, Column: n} }

func TestBlocks(t *testing.T) { // P17.1
	x, w, z, y := field("", "x", 0, 0), field("", "w", 0, 1), field("", "z", 0, 2), field("", "y", 0, 1)
	total := func(op string, l ...api.Term) api.Term { return api.Term{Kind: api.Total, Op: op, Args: l} }
	for s, want := range map[string]api.Block{
		"SELECT * FROM b, a c":      {Tables: []int{1, 0}, Items: []api.Term{field("b", "x", 0, 0), field("b", "w", 0, 1), field("c", "x", 1, 0), field("c", "y", 1, 1), field("c", "z", 1, 2)}, Names: []string{"x", "w", "x", "y", "z"}, Kinds: []uint8{1, 1, 1, 3, 2}, Limit: -1},
		"SELECT a.x FROM a, a AS b": {Tables: []int{0, 0}, Items: []api.Term{field("a", "x", 0, 0)}, Names: []string{"x"}, Kinds: []uint8{1}, Limit: -1},
		"SELECT b.x, w FROM a, b":   {Tables: []int{0, 1}, Items: []api.Term{field("b", "x", 1, 0), field("", "w", 1, 1)}, Names: []string{"x", "w"}, Kinds: []uint8{1, 1}, Limit: -1},
		"SELECT DISTINCT x AS k, x + 1, NULL, w = 1, (w) FROM b WHERE x > 1 AND (w = x AND 2 < x) AND (x = 1 OR w = 1) LIMIT 5": {Distinct: true, Tables: []int{1}, Items: []api.Term{x, binary("+", x, num(1)), {Kind: api.Literal}, binary("=", w, num(1)), w}, Names: []string{"k", "", "", "", "w"}, Kinds: []uint8{1, 1, 0, 2, 1},
			Where: []api.Term{binary(">", x, num(1)), binary("=", w, x), binary("<", num(2), x), binary("OR", binary("=", x, num(1)), binary("=", w, num(1)))}, Limit: 5},
		"SELECT COUNT(*), SUM(x) + COUNT(*), MAX(y) AS m, 7 FROM a ORDER BY m DESC, 1": {Tables: []int{0}, Items: []api.Term{numbered(0), binary("+", numbered(1), numbered(0)), numbered(2), num(7)}, Names: []string{"", "", "m", ""}, Kinds: []uint8{1, 1, 3, 1}, Grouped: true, Totals: []api.Term{total("COUNT"), total("SUM", x), total("MAX", y)}, Order: []api.Key{{Item: 3, Down: true}, {Item: 1}}, Limit: -1},
		"SELECT z, y FROM a GROUP BY y, a.z":                                           {Tables: []int{0}, Items: []api.Term{z, y}, Names: []string{"z", "y"}, Kinds: []uint8{2, 3}, Grouped: true, Group: []api.Term{y, field("a", "z", 0, 2)}, Limit: -1},
		"SELECT x + w, MIN(x) - MIN(w) FROM b GROUP BY b.w, x ORDER BY 2, 1 DESC":      {Tables: []int{1}, Items: []api.Term{binary("+", x, w), binary("-", numbered(0), numbered(1))}, Names: []string{"", ""}, Kinds: []uint8{1, 1}, Grouped: true, Group: []api.Term{field("b", "w", 0, 1), x}, Totals: []api.Term{total("MIN", x), total("MIN", w)}, Order: []api.Key{{Item: 2}, {Item: 1, Down: true}}, Limit: -1},
		"SELECT 1 FROM a GROUP BY x":                                                   {Tables: []int{0}, Items: []api.Term{num(1)}, Names: []string{""}, Kinds: []uint8{1}, Grouped: true, Group: []api.Term{x}, Limit: -1},
		"SELECT * FROM b GROUP BY x, w":                                                {Tables: []int{1}, Items: []api.Term{field("b", "x", 0, 0), field("b", "w", 0, 1)}, Names: []string{"x", "w"}, Kinds: []uint8{1, 1}, Grouped: true, Group: []api.Term{x, w}, Limit: -1},
		"SELECT MIN(NULL) FROM a":                                                      {Tables: []int{0}, Items: []api.Term{numbered(0)}, Names: []string{""}, Kinds: []uint8{0}, Grouped: true, Totals: []api.Term{total("MIN", api.Term{Kind: api.Literal})}, Limit: -1},
		"SELECT x FROM a ORDER BY x, 1":                                                {Tables: []int{0}, Items: []api.Term{x}, Names: []string{"x"}, Kinds: []uint8{1}, Order: []api.Key{{Item: 1}, {Item: 1}}, Limit: -1},
		"SELECT x AS z, z AS x FROM a ORDER BY z":                                      {Tables: []int{0}, Items: []api.Term{x, z}, Names: []string{"z", "x"}, Kinds: []uint8{1, 2}, Order: []api.Key{{Item: 1}}, Limit: -1},
	} {
		if k, e := bound(t, s); e != api.OK || !same(k, want) {
			t.Errorf("%s: %v\n%v", s, e, k)
		}
	}
}

func TestErrors(t *testing.T) { // P17.1
	for s, want := range map[string]api.Errno{
		"SELECT * FROM c": api.ErrName, "SELECT * FROM a, a": api.ErrSame, "SELECT * FROM a, b a": api.ErrSame, "SELECT * FROM a, a, c": api.ErrSame, "SELECT * FROM a, c, a": api.ErrName, "SELECT * FROM a b, b": api.ErrSame,
		"SELECT x FROM a, b": api.ErrSame, "SELECT x FROM a, a AS b": api.ErrSame, "SELECT v FROM a": api.ErrName, "SELECT b.x FROM a": api.ErrName, "SELECT a.x FROM a c": api.ErrName, "SELECT a.w FROM a, b": api.ErrName, "SELECT y FROM a, a c": api.ErrSame,
		"SELECT 1 FROM a WHERE x": api.ErrType, "SELECT 1 FROM a WHERE y": api.ErrType, "SELECT 1 FROM a WHERE 'a'": api.ErrType, "SELECT 1 FROM a WHERE NULL": api.OK, "SELECT 1 FROM a WHERE z": api.OK, "SELECT 1 FROM a WHERE COUNT(*) > 1": api.ErrGroup, "SELECT 1 FROM a WHERE COUNT(v) > 1": api.ErrGroup, "SELECT 1 FROM a WHERE v = COUNT(*)": api.ErrName,
		"SELECT -y FROM a": api.ErrType, "SELECT -z FROM a": api.ErrType, "SELECT x + y FROM a": api.ErrType, "SELECT z * x FROM a": api.ErrType, "SELECT x - NULL FROM a": api.OK, "SELECT -NULL FROM a": api.OK, "SELECT NULL * NULL FROM a": api.OK,
		"SELECT x = y FROM a": api.ErrType, "SELECT x <> z FROM a": api.ErrType, "SELECT y < 1 FROM a": api.ErrType, "SELECT z >= TRUE FROM a": api.OK, "SELECT y <= NULL FROM a": api.OK, "SELECT x > 'a' FROM a": api.ErrType, "SELECT NULL = NULL FROM a": api.OK,
		"SELECT x AND z FROM a": api.ErrType, "SELECT z OR y FROM a": api.ErrType, "SELECT NOT x FROM a": api.ErrType, "SELECT NOT NULL OR z FROM a": api.OK, "SELECT y IS NULL AND z FROM a": api.OK, "SELECT x IS NULL + 1 FROM a": api.ErrSyntax,
		"SELECT x IN (1, NULL) FROM a": api.OK, "SELECT x IN (1, 'a') FROM a": api.ErrType, "SELECT NULL IN (1, 'a') FROM a": api.ErrType, "SELECT NULL IN (NULL, 'a') FROM a": api.OK, "SELECT x NOT IN (z) FROM a": api.ErrType, "SELECT (x IN (1)) = z FROM a": api.OK,
		"SELECT SUM(y) FROM a": api.ErrType, "SELECT SUM(NULL) FROM a": api.OK, "SELECT MIN(z), COUNT(y) FROM a": api.OK, "SELECT MIN(y) + 1 FROM a": api.ErrType, "SELECT MIN(x) + COUNT(*) FROM a": api.OK, "SELECT SUM(COUNT(*)) FROM a": api.ErrGroup, "SELECT MAX(1 + MIN(v)) FROM a": api.ErrGroup, "SELECT MAX(v + MIN(x)) FROM a": api.ErrName,
		"SELECT x, COUNT(*) FROM a": api.ErrGroup, "SELECT COUNT(*), v FROM a": api.ErrName, "SELECT x, v, COUNT(*) FROM a": api.ErrGroup, "SELECT x FROM a GROUP BY y": api.ErrGroup, "SELECT * FROM a GROUP BY x, y": api.ErrGroup, "SELECT x + MIN(y) FROM a GROUP BY x": api.ErrType, "SELECT x + MIN(x) FROM a": api.ErrGroup,
		"SELECT x FROM a GROUP BY v": api.ErrName, "SELECT v FROM a, b GROUP BY x": api.ErrSame, "SELECT a.x FROM a, a c GROUP BY c.x": api.ErrGroup, "SELECT c.x FROM a, a c GROUP BY c.x": api.OK,
		"SELECT x FROM a ORDER BY y": api.ErrName, "SELECT x, y AS x FROM a ORDER BY x": api.ErrSame, "SELECT * FROM a, b ORDER BY x": api.ErrSame, "SELECT * FROM a, b ORDER BY w": api.OK, "SELECT x FROM a ORDER BY 2": api.ErrRange, "SELECT x FROM a ORDER BY 1, 2": api.ErrRange, "SELECT x FROM a ORDER BY v, 2": api.ErrName, "SELECT x + 1 FROM a ORDER BY x": api.ErrName, "SELECT * FROM a ORDER BY 3": api.OK, "SELECT * FROM a ORDER BY 4": api.ErrRange,
		"SELECT v FROM c WHERE v": api.ErrName, "SELECT v FROM a WHERE x ORDER BY 9": api.ErrType, "SELECT -y FROM a GROUP BY v": api.ErrName, "SELECT x = y FROM a ORDER BY v": api.ErrType, "SELECT v FROM a, a WHERE v": api.ErrSame, "SELECT 1 FROM a WHERE x + y = v": api.ErrType, "SELECT 1 FROM a WHERE v = x + y": api.ErrName,
	} {
		q, e := parse.Parse(s)
		if e != api.OK {
			if e != want {
				t.Error(s, e)
			}
			continue
		}
		if k, e := Bind(book(), q); e != want || e != api.OK && !same(k, api.Block{}) {
			t.Errorf("%s: %v, not %v", s, e, want)
		}
	}
}

func TestTotalsOnce(t *testing.T) { // P17.1
	k, e := bound(t, "SELECT SUM(x), MIN(x) + SUM(x), COUNT(*), COUNT(x), -MIN(x) FROM a")
	if e != api.OK || len(k.Totals) != 4 || !parse.SameTerm(k.Items[4], api.Term{Kind: api.Unary, Op: "-", Args: []api.Term{numbered(1)}}) || !parse.SameTerm(k.Items[1], binary("+", numbered(1), numbered(0))) {
		t.Error(k, e)
	}
}

func TestKind(t *testing.T) { // P17.1
	x, tables := field("", "x", 1, 0), []int{1, 0, -1, 2}
	for _, c := range []struct {
		t    api.Term
		want uint8
	}{
		{num(1), 1}, {api.Term{Kind: api.Literal}, 0}, {api.Term{Kind: api.Literal, Value: api.Value{Kind: 3}}, 3}, {x, 1}, {field("", "", 1, 1), 3}, {field("", "", 1, 2), 2}, {field("", "", 0, 1), 1}, {field("", "", 0, 2), 0}, {field("", "", 0, -1), 0}, {field("", "", 2, 0), 0}, {field("", "", 3, 0), 0}, {field("", "", 4, 0), 0}, {field("", "", -1, 0), 0}, {field("", "", math.MaxInt, math.MinInt), 0},
		{api.Term{Kind: api.Unary, Op: "-", Args: []api.Term{x}}, 1}, {api.Term{Kind: api.Unary, Op: "NOT"}, 2}, {binary("+", x, x), 1}, {binary("*", x, x), 1}, {binary("-", x, x), 1}, {binary("=", x, x), 2}, {binary("<>", x, x), 2}, {binary("<", x, x), 2}, {binary("<=", x, x), 2}, {binary(">", x, x), 2}, {binary(">=", x, x), 2}, {binary("AND", x, x), 2}, {binary("OR", x, x), 2},
		{api.Term{Kind: api.IsNull}, 2}, {api.Term{Kind: api.In}, 2}, {api.Term{Kind: api.Total, Op: "COUNT"}, 1}, {api.Term{Kind: api.Total, Op: "SUM"}, 1}, {api.Term{Kind: api.Total, Op: "MIN", Args: []api.Term{field("", "", 1, 1)}}, 3}, {api.Term{Kind: api.Total, Op: "MAX", Args: []api.Term{binary("=", x, x)}}, 2}, {api.Term{Kind: api.Total, Op: "MAX"}, 0}, {numbered(3), 0}, {api.Term{}, 0}, {api.Term{Kind: 99, Op: "-"}, 0}, {binary("/", x, x), 0},
	} {
		if got := Kind(book(), tables, c.t); got != c.want {
			t.Error(c.t, got)
		}
	}
}

func TestParts(t *testing.T) { // P17.1
	l := []api.Term{field("", "a", 0, 0), field("", "b", 5, 1), field("", "c", 31, 0), field("", "d", 32, 0), field("", "e", -1, 0)}
	and := func(a, b api.Term) api.Term { return binary("AND", a, b) }
	if got := Conjuncts(and(and(l[0], l[1]), and(l[2], and(l[3], l[4])))); !slices.EqualFunc(got, l, parse.SameTerm) {
		t.Error(got)
	}
	for _, x := range []api.Term{l[0], binary("OR", l[0], l[1]), {Kind: api.Unary, Op: "AND", Args: l[:2]}, {Kind: api.Binary, Op: "AND", Args: l[:1]}, {Kind: api.Binary, Op: "AND", Args: l[:3]}, {}} {
		if got := Conjuncts(x); len(got) != 1 || !parse.SameTerm(got[0], x) {
			t.Error(x)
		}
	}
	deep := l[0]
	deep.Args = []api.Term{l[1]}
	term := api.Term{Kind: api.In, Args: []api.Term{deep, {Kind: api.Total, Op: "SUM", Args: []api.Term{l[1]}}, {Kind: api.Literal, Args: []api.Term{l[2], l[0]}}}}
	if got := Fields(term); !slices.EqualFunc(got, []api.Term{deep, l[1], l[2], l[0]}, parse.SameTerm) {
		t.Error(got)
	}
	if Uses(term) != 1|1<<5|1<<31 || Uses(l[3]) != 0 || Uses(l[4]) != 0 || Uses(num(1)) != 0 || len(Fields(num(1))) != 0 {
		t.Error(Uses(term))
	}
}

// TestAnyTrees: trees that no text is parsed as are bound, or refused, too.
func TestAnyTrees(t *testing.T) { // P17.1
	odd := []api.Term{{}, {Kind: 99, Args: []api.Term{{Kind: api.Field, Name: "x"}}}, {Kind: api.Unary}, {Kind: api.Binary, Op: "="}, {Kind: api.In}, {Kind: api.IsNull}, {Kind: api.Total, Op: "?"}, {Kind: api.Field, Table: -5, Column: 77}, {Kind: api.Literal, Value: api.Value{Kind: 200}}, {Kind: api.Binary, Op: "AND", Args: []api.Term{{Kind: api.Literal, Value: api.Value{Kind: 200}}, {}}}}
	for _, x := range odd {
		for _, y := range odd {
			q := api.Query{Items: []api.Item{{Term: x}}, From: []api.From{{Table: "a", Name: "a"}}, Where: &y, Group: []api.Term{y}, Order: []api.Key{{Item: -1}}}
			Bind(book(), q)
			Bind(api.Book{}, q)
			q.Group, q.Where = nil, nil
			if _, e := Bind(book(), q); e == api.OK {
				t.Error("a key below 0", x)
			}
		}
	}
	k, e := Bind(book(), api.Query{})
	if e != api.OK || !same(k, api.Block{}) {
		t.Error("a query of nothing", k, e)
	}
	if _, e := Bind(book(), api.Query{Items: []api.Item{{Term: num(1)}}, Order: []api.Key{{}}}); e != api.ErrName {
		t.Error("no item has an empty name", e)
	}
	q, _ := parse.Parse("SELECT b.w + 1, SUM(b.w) FROM a, b WHERE b.w = 1 AND b.w = 2 GROUP BY b.w")
	again, _ := parse.Parse("SELECT b.w + 1, SUM(b.w) FROM a, b WHERE b.w = 1 AND b.w = 2 GROUP BY b.w")
	if _, e := Bind(book(), q); e != api.OK || !parse.Same(q, again) {
		t.Error("the query changed", e)
	}
}
