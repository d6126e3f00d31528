package engine

import (
	"math/rand"
	"slices"
	"strconv"
	"strings"
	"testing"

	"rowlock/api"
	"rowlock/bind"
	"rowlock/load"
	"rowlock/parse"
	"rowlock/term"
	"rowlock/val"
)

func num(n int64) api.Value   { return api.Value{Kind: api.Int, Int: n} }
func bit(n int64) api.Value   { return api.Value{Kind: api.Bool, Int: n} }
func text(s string) api.Value { return api.Value{Kind: api.Text, Text: s} }

// maker makes random scripts and queries, over tables a, b, c: x and y are numbers, s texts, f truths.
type maker struct{ *rand.Rand }

func (r maker) pick(l ...string) string { return l[r.Intn(len(l))] }

func (r maker) script(most int) api.Script {
	var s api.Script
	for _, name := range []string{"a", "b", "c"} {
		s.Tables = append(s.Tables, api.Table{Name: name, Columns: []api.Column{{Name: "x", Kind: api.Int}, {Name: "y", Kind: api.Int}, {Name: "s", Kind: api.Text}, {Name: "f", Kind: api.Bool}}})
		var rows [][]api.Value
		for range r.Intn(most + 1) {
			row := []api.Value{num(int64(r.Intn(6))), num(int64(r.Intn(4) - 1)), text(r.pick("", "k", "l", "it's")), bit(int64(r.Intn(2)))}
			for i := range row {
				if r.Intn(7) == 0 {
					row[i] = api.Value{}
				}
			}
			rows = append(rows, row)
		}
		s.Rows = append(s.Rows, rows)
	}
	for i := range r.Intn(7) {
		s.Indexes = append(s.Indexes, api.Index{Name: "i" + strconv.Itoa(i), Table: r.Intn(3), Columns: r.Perm(4)[:1+r.Intn(2)]})
	}
	return s
}

// number is a term of that kind over one of some tables; it may be too great.
func (r maker) number(tables []string) string {
	f := r.pick(tables...) + "." + r.pick("x", "x", "y")
	switch r.Intn(12) {
	case 0:
		return strconv.Itoa(r.Intn(5))
	case 1:
		return f + r.pick(" + ", " - ", " * ") + r.number(tables)
	case 2:
		return "-" + f
	}
	return f
}

func (r maker) cond(tables []string) string {
	t, u := r.pick(tables...), r.pick(tables...)
	switch r.Intn(16) {
	case 0, 1, 2, 3:
		return t + "." + r.pick("x", "y") + " = " + u + "." + r.pick("x", "y")
	case 4:
		return t + ".s " + r.pick("=", "<", ">=", "<>") + " " + r.pick("'k'", "'it''s'", "NULL", u+".s")
	case 5:
		return t + "." + r.pick("x", "s", "f") + " IS " + r.pick("", "NOT ") + "NULL"
	case 6:
		return t + ".x " + r.pick("", "NOT ") + "IN (1, 3" + r.pick("", ", NULL", ", 1 + 1") + ")"
	case 7:
		return t + ".x " + r.pick("", "NOT ") + "BETWEEN 1 AND " + r.pick("3", "0", u+".y")
	case 8:
		return r.pick("", "NOT ") + "(" + r.cond(tables) + " OR " + r.cond(tables) + ")"
	case 9:
		return t + ".f" + r.pick("", " = TRUE", " <> FALSE")
	case 10:
		return t + "." + r.pick("x", "y") + " * 4611686018427387904 " + r.pick("> 0", "< 0", "IS NULL")
	case 11:
		return r.pick("TRUE", "1 = 1", "FALSE", "NULL", "9223372036854775807 + 1 > 0")
	}
	return r.number(tables) + r.pick(" = ", " < ", " <= ", " > ", " >= ") + strconv.Itoa(r.Intn(4))
}

// query is one over at most so many tables.
func (r maker) query(most int) string {
	var from, names []string
	for i := range 1 + r.Intn(most) {
		names = append(names, string([]byte{byte('p' + i)}))
		from = append(from, r.pick("a", "b", "c")+" "+names[i])
	}
	var items, order []string
	group := ""
	grouped := r.Intn(3) == 0
	if grouped {
		f := r.pick(names...) + "." + r.pick("x", "s", "f")
		items = []string{r.pick("COUNT(*)", "COUNT("+r.pick(names...)+".s)"), r.pick("SUM", "MIN", "MAX") + "(" + r.number(names) + ")"}
		if r.Intn(3) > 0 {
			items, group = append(items, f), " GROUP BY "+f
		}
	} else {
		for range 1 + r.Intn(3) {
			items = append(items, r.pick(r.number(names), r.pick(names...)+".x", r.pick(names...)+".s", r.pick(names...)+".f"))
		}
	}
	for range r.Intn(3) {
		order = append(order, strconv.Itoa(1+r.Intn(len(items)))+r.pick("", " DESC", " ASC"))
	}
	q := "SELECT " + r.pick("", "", "DISTINCT ") + strings.Join(items, ", ") + " FROM " + strings.Join(from, ", ")
	for i := range r.Intn(5) {
		q += []string{" WHERE ", " AND "}[min(i, 1)] + r.cond(names)
	}
	q += group
	if len(order) > 0 {
		q += " ORDER BY " + strings.Join(order, ", ")
	}
	if r.Intn(4) == 0 {
		q += " LIMIT " + strconv.Itoa(r.Intn(5))
	}
	return q
}

// result is what a block denotes over all rows put together: rows ahead of the limit, in any order; or an error.
type result struct {
	rows [][]api.Value
	e    api.Errno
}

// denoted is what a query denotes, told the plain way: apart from terms nothing of the program is used.
func denoted(t *testing.T, b api.Book, rows [][][]api.Value, q string) (api.Block, result) {
	t.Helper()
	tree, e := parse.Parse(q)
	if e != api.OK {
		t.Fatal(q, e)
	}
	k, e := bind.Bind(b, tree)
	if e != api.OK {
		return k, result{e: e}
	}
	product := [][][]api.Value{nil}
	for _, n := range k.Tables {
		var more [][][]api.Value
		for _, c := range product {
			for _, row := range rows[n] {
				more = append(more, append(slices.Clone(c), row))
			}
		}
		product = more
	}
	var left [][][]api.Value
	for _, c := range product {
		switch term.Holds(k.Where, c) {
		case api.Wrong:
			return k, result{e: api.ErrCalc}
		case api.True:
			left = append(left, c)
		}
	}
	return k, shaped(k, left)
}

// shaped groups rows that were put together, and asks for the items.
func shaped(k api.Block, left [][][]api.Value) result {
	var groups [][][][]api.Value
	var keys [][]api.Value
	if k.Grouped && len(k.Group) == 0 {
		groups = [][][][]api.Value{left}
	}
	for i, c := range left {
		var key []api.Value
		for _, f := range k.Group {
			key = append(key, c[f.Table][f.Column])
		}
		n := slices.IndexFunc(keys, func(other []api.Value) bool { return val.Same(other, key) })
		switch {
		case k.Grouped && len(k.Group) == 0:
		case k.Grouped && n >= 0:
			groups[n] = append(groups[n], left[i])
		default:
			groups, keys = append(groups, [][][]api.Value{left[i]}), append(keys, key)
		}
	}
	var r result
	for _, g := range groups {
		var totals []api.Value
		for _, x := range k.Totals {
			v, ok := totalled(x, g)
			if !ok {
				return result{e: api.ErrCalc}
			}
			totals = append(totals, v)
		}
		var over [][]api.Value
		if len(g) > 0 {
			over = g[0]
		}
		var row []api.Value
		for _, x := range k.Items {
			v, ok := term.Eval(x, over, totals)
			if !ok {
				return result{e: api.ErrCalc}
			}
			row = append(row, v)
		}
		if !k.Distinct || !slices.ContainsFunc(r.rows, func(other []api.Value) bool { return val.Same(other, row) }) {
			r.rows = append(r.rows, row)
		}
	}
	return r
}

// totalled is what a total comes to; numbers are small enough that a sum is right on the way, too, unless a number isn't.
func totalled(x api.Term, g [][][]api.Value) (api.Value, bool) {
	var count, sum int64
	var best api.Value
	for _, c := range g {
		v := bit(1)
		if len(x.Args) > 0 {
			var ok bool
			if v, ok = term.Eval(x.Args[0], c, nil); !ok {
				return v, false
			}
		}
		if v.Kind == api.Null {
			continue
		}
		count, sum = count+1, sum+v.Int
		if sign := val.Compare(v, best); count == 1 || x.Op == "MIN" && sign < 0 || x.Op == "MAX" && sign > 0 {
			best = v
		}
	}
	switch {
	case x.Op == "COUNT":
		return num(count), true
	case count == 0:
		return api.Value{}, true
	case x.Op == "SUM":
		return num(sum), true
	}
	return best, true
}

// stands tells whether a row stands behind another one by a block's keys.
func stands(k api.Block, a, b []api.Value) int {
	for _, key := range k.Order {
		c := val.Compare(a[key.Item-1], b[key.Item-1])
		if key.Down {
			c = -c
		}
		if c != 0 {
			return c
		}
	}
	return 0
}

// agree tells whether an answer is one that a result allows: its rows, as often; rising by the keys; with a limit the first ones of such an order.
func agree(k api.Block, a api.Answer, e api.Errno, want result) bool {
	if e != want.e || e != api.OK {
		return e == want.e
	}
	full := slices.Clone(want.rows)
	slices.SortFunc(full, func(a, b []api.Value) int { return stands(k, a, b) })
	n := len(full)
	if k.Limit >= 0 {
		n = min(n, k.Limit)
	}
	if len(a.Rows) != n || !slices.Equal(a.Names, k.Names) {
		return false
	}
	left := slices.Clone(full)
	for i, row := range a.Rows {
		at := slices.IndexFunc(left, func(other []api.Value) bool { return val.Same(other, row) })
		// Of rows that stand alike by the keys any may come; but a row must stand as the one does that would be there.
		if at < 0 || stands(k, row, full[i]) != 0 {
			return false
		}
		left = slices.Delete(left, at, at+1)
	}
	return true
}

// loaded is a script's disk, as a book and an image.
func loaded(t *testing.T, s api.Script) (api.Book, []byte) {
	t.Helper()
	d, b, e := load.Load(900, s)
	if e != api.OK {
		t.Fatal(e)
	}
	return b, d.Image()
}
