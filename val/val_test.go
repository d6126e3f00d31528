package val

import (
	"math"
	"strings"
	"testing"

	"rowlock/api"
)

func num(n int64) api.Value   { return api.Value{Kind: api.Int, Int: n} }
func truth(n int64) api.Value { return api.Value{Kind: api.Bool, Int: n} }
func text(s string) api.Value { return api.Value{Kind: api.Text, Text: s} }

// rising are values, each ahead of the next one.
func rising() []api.Value {
	return []api.Value{{}, num(math.MinInt64), num(-1), num(0), num(7), num(math.MaxInt64), truth(0), truth(1),
		text(""), text("\x00"), text("'"), text("A"), text("a"), text("a\x00"), text("ab"), text("b"), text("\xff"), text(strings.Repeat("\xff", 48))}
}

func TestMay(t *testing.T) { // P1.1
	for _, v := range rising() {
		if !May(v) {
			t.Errorf("%v may be", v)
		}
	}
	for _, v := range []api.Value{{Int: 1}, {Text: "a"}, {Kind: 1, Text: "a"}, {Kind: 1, Int: 4, Text: "a"}, {Kind: 2, Int: 2}, {Kind: 2, Int: -1}, {Kind: 2, Int: 3}, {Kind: 2, Text: "a"},
		{Kind: 2, Int: 1, Text: "a"}, {Kind: 3, Int: 1}, {Kind: 3, Text: strings.Repeat("a", 49)}, {Kind: 4}, {Kind: 255}} {
		if May(v) {
			t.Errorf("%v may not be", v)
		}
	}
}

func TestCompare(t *testing.T) { // P1.1, P1.2
	l := rising()
	for i, a := range l {
		for k, b := range l {
			want := 0
			if i < k {
				want = -1
			} else if i > k {
				want = 1
			}
			if got := Compare(a, b); got != want {
				t.Errorf("%v to %v: %d", a, b, got)
			}
		}
	}
	if Compare(api.Value{Kind: 9, Int: 4}, api.Value{Text: "x"}) != 0 || Compare(api.Value{Kind: 9}, num(-5)) != -1 || Compare(text(""), api.Value{Kind: 9}) != 1 {
		t.Error("a kind above Text counts as Null")
	}
	if Compare(api.Value{Kind: 1, Text: "a"}, api.Value{Kind: 1, Text: "b"}) != 0 || Compare(api.Value{Kind: 3, Int: 4}, api.Value{Kind: 3, Int: 9}) != 0 {
		t.Error("fields that play no part were looked at")
	}
	if Compare(truth(2), truth(1)) != 1 {
		t.Error("truths stand as their numbers")
	}
}

func TestRows(t *testing.T) { // P1.1
	a, b := num(1), num(2)
	for _, x := range []struct {
		a, b []api.Value
		down []bool
		want int
	}{
		{nil, nil, nil, 0}, {nil, []api.Value{}, nil, 0}, {nil, []api.Value{a}, nil, -1}, {[]api.Value{a}, nil, []bool{true}, 1},
		{[]api.Value{a}, []api.Value{b}, nil, -1}, {[]api.Value{a}, []api.Value{b}, []bool{true}, 1}, {[]api.Value{a}, []api.Value{b}, []bool{false, true}, -1},
		{[]api.Value{a, a}, []api.Value{a, b}, []bool{true}, -1}, {[]api.Value{a, a}, []api.Value{a, b}, []bool{false, true}, 1},
		{[]api.Value{a}, []api.Value{a, b}, []bool{true, true}, -1}, {[]api.Value{b}, []api.Value{a, b}, nil, 1},
	} {
		if got := CompareRows(x.a, x.b, x.down); got != x.want {
			t.Errorf("%v to %v (%v): %d", x.a, x.b, x.down, got)
		}
		if Same(x.a, x.b) != (x.want == 0) {
			t.Errorf("%v same as %v", x.a, x.b)
		}
	}
	if !Same([]api.Value{{Kind: 7}}, []api.Value{{}}) {
		t.Error("same is what Compare tells")
	}
}

func TestShow(t *testing.T) { // P1.1
	for _, x := range []struct {
		v    api.Value
		want string
	}{
		{api.Value{}, "NULL"}, {api.Value{Kind: 8, Int: 3}, "NULL"}, {num(0), "0"}, {num(-12), "-12"}, {num(math.MinInt64), "-9223372036854775808"},
		{truth(0), "FALSE"}, {truth(1), "TRUE"}, {truth(-3), "TRUE"}, {text(""), "''"}, {text("it's"), "'it''s'"}, {text("''"), "''''''"},
	} {
		if got := Show(x.v); got != x.want {
			t.Errorf("%v: %s", x.v, got)
		}
	}
}

func TestThereAndBack(t *testing.T) { // P1.3
	for _, v := range rising() {
		if got, ok := Read(Show(v)); !ok || got != v {
			t.Errorf("%v: %v, %v", v, got, ok)
		}
	}
	for _, s := range []string{"", " ", "null", "Null", "true", " 5", "5 ", "-", "-0", "+5", "05", "-05", "1_0", "0x1", "5.0", "9223372036854775808", "-9223372036854775809", "'", "'''", "'a", "a'", "'a'b'", "''a'", "'a' ", "NULL ", "'" + strings.Repeat("a", 49) + "'"} {
		if got, ok := Read(s); ok || got != (api.Value{}) {
			t.Errorf("%q: %v, %v", s, got, ok)
		}
	}
	if v, ok := Read("'" + strings.Repeat("''", 48) + "'"); !ok || v != text(strings.Repeat("'", 48)) {
		t.Error("48 quotes")
	}
}
