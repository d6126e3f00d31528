package parse

import (
	"slices"
	"strconv"
	"strings"

	"rowlock/api"
	"rowlock/val"
)

// Print is a text that is parsed as a tree.
func Print(q api.Query) string {
	w := &printer{}
	w.say("SELECT")
	if q.Distinct {
		w.say("DISTINCT")
	}
	if q.All {
		w.say("*")
	} else {
		commas(w, q.Items, w.item)
	}
	w.say("FROM")
	commas(w, q.From, func(f api.From) { w.say(f.Table, "AS", f.Name) })
	if q.Where != nil {
		w.say("WHERE")
		w.term(*q.Where)
	}
	if len(q.Group) > 0 {
		w.say("GROUP", "BY")
		commas(w, q.Group, w.term)
	}
	if len(q.Order) > 0 {
		w.say("ORDER", "BY")
		commas(w, q.Order, w.key)
	}
	if q.Limit >= 0 {
		w.say("LIMIT", strconv.Itoa(q.Limit))
	}
	return w.text()
}

// Text is a term, printed so.
func Text(t api.Term) string {
	w := &printer{}
	w.term(t)
	return w.text()
}

// printer gathers words and signs.
type printer struct{ words []string }

func (w *printer) say(l ...string) {
	w.words = append(w.words, l...)
}

func (w *printer) text() string {
	return strings.Join(w.words, " ")
}

// commas prints things with commas between.
func commas[T any](w *printer, l []T, one func(x T)) {
	for i, x := range l {
		if i > 0 {
			w.say(",")
		}
		one(x)
	}
}

func (w *printer) item(x api.Item) {
	w.term(x.Term)
	if x.Name != "" {
		w.say("AS", x.Name)
	}
}

func (w *printer) key(k api.Key) {
	if k.Item != 0 {
		w.say(strconv.Itoa(k.Item))
	} else {
		w.say(k.Name)
	}
	if k.Down {
		w.say("DESC")
	}
}

func (w *printer) term(t api.Term) {
	switch t.Kind {
	case api.Literal:
		w.say(val.Show(t.Value))
	case api.Field:
		if t.Of != "" {
			w.say(t.Of, ".")
		}
		w.say(t.Name)
	case api.Total:
		w.say(t.Op, "(")
		if len(t.Args) == 0 {
			w.say("*")
		}
		commas(w, t.Args, w.term)
		w.say(")")
	default:
		w.say("(")
		w.inner(t)
		w.say(")")
	}
}

// inner prints what stands in parentheses.
func (w *printer) inner(t api.Term) {
	if t.Kind == api.Unary {
		w.say(t.Op)
		for _, a := range t.Args {
			w.behindSign(t.Op, a)
		}
		return
	}
	for i, a := range t.Args {
		if t.Kind == api.Binary && i > 0 {
			w.say(t.Op)
		}
		if t.Kind != api.In || i == 0 {
			w.term(a)
		}
	}
	if t.Kind == api.IsNull {
		w.say("IS")
	}
	if t.Not {
		w.say("NOT")
	}
	switch t.Kind {
	case api.IsNull:
		w.say("NULL")
	case api.In:
		w.say("IN", "(")
		commas(w, t.Args[min(1, len(t.Args)):], w.term)
		w.say(")")
	}
}

// behindSign prints what stands behind a unary operation: right behind a minus sign a number would be taken for one below 0.
func (w *printer) behindSign(op string, t api.Term) {
	if op == "-" && t.Kind == api.Literal && t.Value.Kind == api.Int && t.Value.Int >= 0 {
		w.say("(", val.Show(t.Value), ")")
		return
	}
	w.term(t)
}

// Same tells whether two trees are the same.
func Same(a, b api.Query) bool {
	if (a.Where == nil) != (b.Where == nil) || a.Where != nil && !SameTerm(*a.Where, *b.Where) {
		return false
	}
	return a.Distinct == b.Distinct && a.All == b.All && a.Limit == b.Limit && slices.EqualFunc(a.Items, b.Items, sameItem) &&
		slices.Equal(a.From, b.From) && slices.EqualFunc(a.Group, b.Group, SameTerm) && slices.Equal(a.Order, b.Order)
}

func sameItem(a, b api.Item) bool {
	return a.Name == b.Name && SameTerm(a.Term, b.Term)
}

// SameTerm tells whether two terms are the same.
func SameTerm(a, b api.Term) bool {
	return a.Kind == b.Kind && a.Op == b.Op && a.Not == b.Not && a.Value == b.Value && a.Of == b.Of && a.Name == b.Name &&
		a.Table == b.Table && a.Column == b.Column && slices.EqualFunc(a.Args, b.Args, SameTerm)
}
