package sarg

import (
	"slices"

	"rowlock/api"
	"rowlock/term"
	"rowlock/val"
)

// Equal is a test that a field is one of some values.
func Equal(t api.Term) (api.Term, []api.Value, bool) {
	f, l, ok := equal(t)
	if !ok {
		return api.Term{}, nil, false
	}
	slices.SortFunc(l, val.Compare)
	return f, slices.Compact(l), true
}

// equal is the same, with the values as they stand.
func equal(t api.Term) (api.Term, []api.Value, bool) {
	switch {
	case t.Kind == api.IsNull && !t.Not && len(t.Args) == 1:
		return t.Args[0], []api.Value{{}}, t.Args[0].Kind == api.Field
	case t.Kind == api.In && !t.Not && len(t.Args) > 0:
		return among(t.Args[0], t.Args[1:])
	case t.Kind == api.Binary && t.Op == "OR" && len(t.Args) == 2:
		return either(t.Args[0], t.Args[1])
	}
	f, op, v, ok := compared(t)
	return f, []api.Value{v}, ok && op == "="
}

// among is the test that a field is one of constants; those that come to Null are left out.
func among(f api.Term, constants []api.Term) (api.Term, []api.Value, bool) {
	var l []api.Value
	for _, c := range constants {
		v, ok := constant(c)
		if !ok {
			return api.Term{}, nil, false
		}
		if v.Kind != api.Null {
			l = append(l, v)
		}
	}
	return f, l, f.Kind == api.Field
}

// either is the test that one of two tests on the same field passes.
func either(a, b api.Term) (api.Term, []api.Value, bool) {
	f, l, ok := equal(a)
	g, m, fine := equal(b)
	return f, append(l, m...), ok && fine && f.Table == g.Table && f.Column == g.Column
}

// constant is what a constant comes to; false, if it is none, wrong, or may not be.
func constant(t api.Term) (api.Value, bool) {
	if !term.Constant(t) {
		return api.Value{}, false
	}
	v, ok := term.Eval(t, nil, nil)
	return v, ok && val.May(v)
}

// compared is a comparison of a field with a constant that isn't Null, turned so that the field stands ahead.
func compared(t api.Term) (api.Term, string, api.Value, bool) {
	if t.Kind != api.Binary || len(t.Args) != 2 {
		return api.Term{}, "", api.Value{}, false
	}
	f, c, op := t.Args[0], t.Args[1], t.Op
	if f.Kind != api.Field {
		f, c, op = c, f, turned(op)
	}
	v, ok := constant(c)
	if !ok || f.Kind != api.Field || v.Kind == api.Null {
		return api.Term{}, "", api.Value{}, false
	}
	return f, op, v, true
}

// turned is how the second one stands to the first.
func turned(op string) string {
	switch op {
	case "<":
		return ">"
	case "<=":
		return ">="
	case ">":
		return "<"
	case ">=":
		return "<="
	}
	return op
}

// Between is a test that a field stands so to a value.
func Between(t api.Term) (api.Term, string, api.Value, bool) {
	f, op, v, ok := compared(t)
	if !ok || op != "<" && op != "<=" && op != ">" && op != ">=" {
		return api.Term{}, "", api.Value{}, false
	}
	return f, op, v, true
}
