package bind

import (
	"slices"

	"rowlock/api"
)

// term binds a term; totals tells whether totals may stand in it.
func (x *binder) term(t api.Term, totals bool) (api.Term, api.Errno) {
	switch t.Kind {
	case api.Field:
		return x.field(t)
	case api.Total:
		if !totals {
			return api.Term{}, api.ErrGroup
		}
		totals = false
	}
	var args []api.Term
	for _, a := range t.Args {
		bound, e := x.term(a, totals)
		if e != api.OK {
			return api.Term{}, e
		}
		args = append(args, bound)
	}
	t.Args = args
	if !x.fits(t) {
		return api.Term{}, api.ErrType
	}
	return t, api.OK
}

// field binds a field to the one column that it names.
func (x *binder) field(t api.Term) (api.Term, api.Errno) {
	n, e := only(len(x.names), func(i int) bool {
		return (t.Of == "" || t.Of == x.names[i]) && x.column(i, t.Name) >= 0
	})
	if e != api.OK {
		return api.Term{}, e
	}
	t.Table = n - 1
	t.Column = x.column(t.Table, t.Name)
	return t, api.OK
}

// column is the number of the column of this name of a table; -1, if there is none.
func (x *binder) column(table int, name string) int {
	return slices.IndexFunc(x.book.Tables[x.block.Tables[table]].Columns, func(c api.Column) bool { return c.Name == name })
}

func (x *binder) kind(t api.Term) uint8 {
	return Kind(x.book, x.block.Tables, t)
}

// fits tells whether the kinds of a bound term's arguments are as they must be.
func (x *binder) fits(t api.Term) bool {
	var kinds []uint8
	for _, a := range t.Args {
		kinds = append(kinds, x.kind(a))
	}
	switch t.Kind {
	case api.In:
		return alike(kinds)
	case api.Total:
		return t.Op != "SUM" || all(api.Int, kinds...)
	case api.Unary, api.Binary:
		switch t.Op {
		case "-", "+", "*":
			return all(api.Int, kinds...)
		case "AND", "OR", "NOT":
			return all(api.Bool, kinds...)
		case "=", "<>", "<", "<=", ">", ">=":
			return alike(kinds)
		}
	}
	return true
}

// all tells whether all kinds are this one; Null fits everywhere.
func all(kind uint8, l ...uint8) bool {
	return !slices.ContainsFunc(l, func(k uint8) bool { return k != api.Null && k != kind })
}

// alike tells whether no two kinds differ; Null fits everywhere.
func alike(l []uint8) bool {
	i := slices.IndexFunc(l, func(k uint8) bool { return k != api.Null })
	return i < 0 || all(l[i], l...)
}

// Kind is a bound term's kind.
func Kind(b api.Book, tables []int, t api.Term) uint8 {
	switch t.Kind {
	case api.Literal:
		return t.Value.Kind
	case api.Field:
		return columnKind(b, tables, t)
	case api.IsNull, api.In:
		return api.Bool
	case api.Unary, api.Binary:
		switch t.Op {
		case "-", "+", "*":
			return api.Int
		case "AND", "OR", "NOT", "=", "<>", "<", "<=", ">", ">=":
			return api.Bool
		}
	case api.Total:
		if t.Op == "COUNT" || t.Op == "SUM" {
			return api.Int
		}
		if (t.Op == "MIN" || t.Op == "MAX") && len(t.Args) > 0 {
			return Kind(b, tables, t.Args[0])
		}
	}
	return api.Null
}

func columnKind(b api.Book, tables []int, t api.Term) uint8 {
	if t.Table < 0 || t.Table >= len(tables) || tables[t.Table] < 0 || tables[t.Table] >= len(b.Tables) {
		return api.Null
	}
	columns := b.Tables[tables[t.Table]].Columns
	if t.Column < 0 || t.Column >= len(columns) {
		return api.Null
	}
	return columns[t.Column].Kind
}

// hasTotal tells whether a total stands in a term.
func hasTotal(t api.Term) bool {
	return t.Kind == api.Total || t.Kind != api.Field && slices.ContainsFunc(t.Args, hasTotal)
}

// Conjuncts are the parts of a term between ANDs.
func Conjuncts(t api.Term) []api.Term {
	if t.Kind != api.Binary || t.Op != "AND" || len(t.Args) != 2 {
		return []api.Term{t}
	}
	return append(Conjuncts(t.Args[0]), Conjuncts(t.Args[1])...)
}

// Fields are all fields in a term.
func Fields(t api.Term) []api.Term {
	if t.Kind == api.Field {
		return []api.Term{t}
	}
	var l []api.Term
	for _, a := range t.Args {
		l = append(l, Fields(a)...)
	}
	return l
}

// Uses is of which tables fields stand in a term.
func Uses(t api.Term) uint32 {
	if t.Kind == api.Field {
		if t.Table < 0 || t.Table > 31 {
			return 0
		}
		return 1 << t.Table
	}
	var set uint32
	for _, a := range t.Args {
		set |= Uses(a)
	}
	return set
}
