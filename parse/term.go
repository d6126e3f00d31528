package parse

import "rowlock/api"

// row takes terms with some operations between, which stand from the left.
func (p *parser) row(one func() api.Term, ops ...string) api.Term {
	t := one()
	for p.sees(ops...) {
		op := p.take().Text
		t = binary(op, t, one())
	}
	return t
}

func binary(op string, a, b api.Term) api.Term {
	return api.Term{Kind: api.Binary, Op: op, Args: []api.Term{a, b}}
}

func unary(op string, a api.Term) api.Term {
	return api.Term{Kind: api.Unary, Op: op, Args: []api.Term{a}}
}

// or begins ahead of its first token, whatever that is: that it is too deep is told ahead of what is wrong with that.
func (p *parser) or() api.Term {
	p.begin()
	t := p.row(p.and, "OR")
	p.end()
	return t
}

func (p *parser) and() api.Term {
	return p.row(p.not, "AND")
}

func (p *parser) not() api.Term {
	if !p.accepts("NOT") {
		return p.test()
	}
	p.begin()
	t := unary("NOT", p.not())
	p.end()
	return t
}

func (p *parser) test() api.Term {
	a := p.sum()
	if p.sees("=", "<>", "<", "<=", ">", ">=") {
		op := p.take().Text
		return binary(op, a, p.sum())
	}
	if p.accepts("IS") {
		not := p.accepts("NOT")
		p.expect("NULL")
		return api.Term{Kind: api.IsNull, Not: not, Args: []api.Term{a}}
	}
	not := p.accepts("NOT")
	switch {
	case p.accepts("IN"):
		p.expect("(")
		l := list(p, api.MaxList, p.sum)
		p.expect(")")
		return api.Term{Kind: api.In, Not: not, Args: append([]api.Term{a}, l...)}
	case p.accepts("BETWEEN"):
		return p.between(a, not)
	case not:
		panic(api.ErrSyntax)
	}
	return a
}

func (p *parser) between(a api.Term, not bool) api.Term {
	lo := p.sum()
	p.expect("AND")
	t := binary("AND", binary(">=", a, lo), binary("<=", a, p.sum()))
	if not {
		return unary("NOT", t)
	}
	return t
}

func (p *parser) sum() api.Term {
	return p.row(p.product, "+", "-")
}

func (p *parser) product() api.Term {
	return p.row(p.sign, "*")
}

func (p *parser) sign() api.Term {
	if !p.accepts("-") {
		return p.first()
	}
	if p.next().Kind == api.NumberToken {
		return literal(api.Value{Kind: api.Int, Int: -p.number()})
	}
	p.begin()
	t := unary("-", p.sign())
	p.end()
	return t
}

func literal(v api.Value) api.Term {
	return api.Term{Kind: api.Literal, Value: v}
}

func (p *parser) first() api.Term {
	switch p.next().Kind {
	case api.NumberToken:
		return literal(api.Value{Kind: api.Int, Int: p.number()})
	case api.TextToken:
		return literal(api.Value{Kind: api.Text, Text: p.take().Text})
	case api.NameToken:
		return p.field()
	}
	switch {
	case p.accepts("NULL"):
		return literal(api.Value{})
	case p.accepts("TRUE"):
		return literal(api.Value{Kind: api.Bool, Int: 1})
	case p.accepts("FALSE"):
		return literal(api.Value{Kind: api.Bool})
	case p.accepts("("):
		t := p.or()
		p.expect(")")
		return t
	case p.sees("COUNT", "SUM", "MIN", "MAX"):
		return p.total()
	}
	panic(api.ErrSyntax)
}

func (p *parser) total() api.Term {
	t := api.Term{Kind: api.Total, Op: p.take().Text}
	p.expect("(")
	if t.Op != "COUNT" || !p.accepts("*") {
		t.Args = []api.Term{p.or()}
	}
	p.expect(")")
	return t
}
