package logic

import (
	"testing"

	"rowlock/api"
)

const f, u, w, y = api.False, api.Unknown, api.Wrong, api.True

// truths are all, with two that are above True.
func truths() []api.Truth { return []api.Truth{f, u, w, y, 4, 255} }

func TestNot(t *testing.T) { // P2.1
	for a, want := range map[api.Truth]api.Truth{f: y, u: u, w: w, y: f, 4: w, 255: w} {
		if got := Not(a); got != want {
			t.Errorf("Not(%d): %d", a, got)
		}
	}
}

func TestAndOr(t *testing.T) { // P2.1
	for _, x := range []struct {
		l       []api.Truth
		and, or api.Truth
	}{
		{nil, y, f}, {[]api.Truth{f}, f, f}, {[]api.Truth{u}, u, u}, {[]api.Truth{w}, w, w}, {[]api.Truth{y}, y, y}, {[]api.Truth{4}, w, w}, {[]api.Truth{255}, w, w},
		{[]api.Truth{f, u}, f, u}, {[]api.Truth{f, w}, f, w}, {[]api.Truth{f, y}, f, y}, {[]api.Truth{u, w}, u, u}, {[]api.Truth{u, y}, u, y}, {[]api.Truth{w, y}, w, y},
		{[]api.Truth{9, y}, w, y}, {[]api.Truth{9, f}, f, w}, {[]api.Truth{9, u}, u, u},
		{[]api.Truth{f, u, w, y}, f, y}, {[]api.Truth{u, w, y}, u, y}, {[]api.Truth{f, u, w}, f, u}, {[]api.Truth{y, y, y}, y, y}, {[]api.Truth{f, f}, f, f},
	} {
		if got := And(x.l...); got != x.and {
			t.Errorf("And(%v): %d", x.l, got)
		}
		if got := Or(x.l...); got != x.or {
			t.Errorf("Or(%v): %d", x.l, got)
		}
	}
}

func TestOrder(t *testing.T) { // P2.2
	for _, a := range truths() {
		for _, b := range truths() {
			if And(a, b) != And(b, a) || Or(a, b) != Or(b, a) {
				t.Error(a, b)
			}
			for _, c := range truths() {
				all, one := And(a, b, c), Or(a, b, c)
				if And(c, a, b) != all || And(And(a, b), c) != all || And(a, And(b, c)) != all {
					t.Error("And", a, b, c)
				}
				if Or(c, a, b) != one || Or(Or(a, b), c) != one || Or(a, Or(b, c)) != one {
					t.Error("Or", a, b, c)
				}
			}
		}
	}
}

func TestInsideOut(t *testing.T) { // P2.3
	for _, a := range truths() {
		for _, b := range truths() {
			if Not(And(a, b)) != Or(Not(a), Not(b)) || Not(Or(a, b)) != And(Not(a), Not(b)) {
				t.Error(a, b)
			}
		}
	}
}

func TestValues(t *testing.T) { // P2.1
	for _, x := range []struct {
		v    api.Value
		want api.Truth
	}{
		{api.Value{}, u}, {api.Value{Kind: 2}, f}, {api.Value{Kind: 2, Int: 1}, y}, {api.Value{Kind: 2, Int: -7}, y}, {api.Value{Kind: 1, Int: 1}, w}, {api.Value{Kind: 1}, w}, {api.Value{Kind: 3}, w}, {api.Value{Kind: 4}, w}, {api.Value{Kind: 255}, w},
	} {
		if got := Of(x.v); got != x.want {
			t.Errorf("Of(%v): %d", x.v, got)
		}
	}
	for _, a := range truths() {
		v, ok := Value(a)
		if ok != (a != w && a <= y) {
			t.Error(a, ok)
		}
		if want := []api.Value{{Kind: api.Bool}, {}, {}, {Kind: api.Bool, Int: 1}, {}}[min(a, 4)]; v != want {
			t.Error(a, v)
		}
		if ok && Of(v) != a {
			t.Error("there and back", a)
		}
	}
}

func TestTest(t *testing.T) { // P2.1
	num := func(n int64) api.Value { return api.Value{Kind: api.Int, Int: n} }
	text := func(s string) api.Value { return api.Value{Kind: api.Text, Text: s} }
	bit := func(n int64) api.Value { return api.Value{Kind: api.Bool, Int: n} }
	ops := []string{"=", "<>", "<", "<=", ">", ">="}
	for _, x := range []struct {
		a, b api.Value
		want [6]api.Truth
	}{
		{num(1), num(2), [6]api.Truth{f, y, y, y, f, f}}, {num(2), num(2), [6]api.Truth{y, f, f, y, f, y}}, {num(3), num(-2), [6]api.Truth{f, y, f, f, y, y}},
		{text("a"), text("ab"), [6]api.Truth{f, y, y, y, f, f}}, {bit(1), bit(0), [6]api.Truth{f, y, f, f, y, y}},
		{api.Value{}, num(1), [6]api.Truth{u, u, u, u, u, u}}, {text(""), api.Value{}, [6]api.Truth{u, u, u, u, u, u}}, {api.Value{}, api.Value{Kind: 9}, [6]api.Truth{u, u, u, u, u, u}},
		{num(1), bit(1), [6]api.Truth{w, w, w, w, w, w}}, {text("1"), num(1), [6]api.Truth{w, w, w, w, w, w}}, {api.Value{Kind: 4}, api.Value{Kind: 4}, [6]api.Truth{w, w, w, w, w, w}},
	} {
		for i, op := range ops {
			if got := Test(op, x.a, x.b); got != x.want[i] {
				t.Errorf("%v %s %v: %d", x.a, op, x.b, got)
			}
		}
	}
	for _, op := range []string{"", "==", "!=", "AND", "+"} {
		if Test(op, num(1), num(1)) != w || Test(op, num(1), api.Value{}) != u {
			t.Error(op)
		}
	}
}
