package split

import (
	"math"
	"math/bits"
	"math/rand"
	"slices"
	"testing"

	"rowlock/api"
)

func field(table, column int) api.Term {
	return api.Term{Kind: api.Field, Table: table, Column: column}
}
func binary(op string, a, b api.Term) api.Term {
	return api.Term{Kind: api.Binary, Op: op, Args: []api.Term{a, b}}
}

var one = api.Term{Kind: api.Literal, Value: api.Value{Kind: api.Int, Int: 1}}

// same tells whether two parts are; of conditions and joins a nil list is the same as an empty one.
func same(a, b api.Parts) bool {
	return slices.Equal(a.None, b.None) && slices.EqualFunc(a.Local, b.Local, slices.Equal[[]int]) && slices.Equal(a.Many, b.Many) && slices.Equal(a.Joins, b.Joins)
}

func TestSplit(t *testing.T) { // P19.1
	l := []api.Term{
		binary("=", field(0, 2), field(1, 3)),                   // a join
		binary("=", field(0, 1), one),                           // of 0
		one,                                                     // of none
		binary("=", field(2, 5), field(0, 4)),                   // a join, the higher table first
		binary("<", field(0, 1), field(1, 1)),                   // of several
		binary("=", field(1, 0), field(1, 1)),                   // of 1
		binary("=", field(0, 0), binary("+", field(1, 0), one)), // of several, no join
		binary("=", field(1, 0), field(3, 0)),                   // of 1, of three tables
		binary("=", field(31, 0), field(2, 0)),                  // of 2: 31 isn't used by any
		binary("=", field(-1, 0), field(99, 0)),                 // of none
		{Kind: api.Unary, Op: "=", Args: []api.Term{field(0, 0), field(1, 0)}},
		binary("=", binary("+", field(1, 0), one), field(0, 0)), // the same, turned round
		{Kind: api.Binary, Op: "=", Args: []api.Term{field(0, 0), field(1, 0), field(2, 0)}},
	}
	want := api.Parts{None: []int{2, 9}, Local: [][]int{{1}, {5, 7}, {8}}, Many: []int{0, 3, 4, 6, 10, 11, 12}, Joins: []api.Join{{Cond: 0, Low: 0, High: 1, LowCol: 2, HighCol: 3}, {Cond: 3, Low: 0, High: 2, LowCol: 4, HighCol: 5}}}
	if got := Split(l, 3); !same(got, want) {
		t.Error(got)
	}
	if got := Split(l, 2); !slices.Equal(got.Many, []int{0, 4, 6, 10, 11, 12}) || len(got.Joins) != 1 || !slices.Equal(got.Local[0], []int{1, 3}) {
		t.Error("table 2 isn't used", got)
	}
	for _, n := range []int{0, -1, math.MinInt} {
		if got := Split(l, n); len(got.None) != len(l) || len(got.Local) != 0 || got.Many != nil || got.Joins != nil {
			t.Error(n, got)
		}
	}
	for _, n := range []int{31, 32, math.MaxInt} {
		if got := Split([]api.Term{binary("=", field(31, 0), field(30, 0)), binary("=", field(30, 1), field(0, 2))}, n); len(got.Local) != 31 || !slices.Equal(got.Local[30], []int{0}) || len(got.Joins) != 1 || got.Joins[0] != (api.Join{Cond: 1, High: 30, LowCol: 2, HighCol: 1}) {
			t.Error(n, got)
		}
	}
	if got := Split(nil, 2); !same(got, api.Parts{Local: make([][]int, 2)}) {
		t.Error(got)
	}
}

func TestReady(t *testing.T) { // P19.1
	l := []api.Term{one, field(0, 0), binary("=", field(0, 0), field(2, 0)), field(31, 0), field(32, 0), binary("=", field(1, 0), field(0, 0))}
	for _, x := range []struct {
		had, now uint32
		want     []int
	}{{0, 0, []int{0, 4}}, {0, 1, []int{0, 1, 4}}, {1, 1, nil}, {1, 3, []int{5}}, {1, 5, []int{2}}, {1, 7, []int{2, 5}}, {3, 7, []int{2}}, {4, 5, []int{1, 2}}, {7, 1<<31 | 7, []int{3}}, {0, math.MaxUint32, []int{0, 1, 2, 3, 4, 5}}, {math.MaxUint32, math.MaxUint32, nil}, {2, 1, []int{1}}} {
		if got := Ready(l, x.had, x.now); !slices.Equal(got, x.want) {
			t.Error(x, got)
		}
	}
}

// TestOnce: as tables come one by one, in any order, each condition is in one part, and ready just once.
func TestOnce(t *testing.T) { // P19.2
	r := rand.New(rand.NewSource(19))
	for range 500 {
		tables := 1 + r.Intn(5)
		var l []api.Term
		for range r.Intn(9) {
			x := one
			for range r.Intn(4) {
				x = binary([]string{"=", "+"}[r.Intn(2)], x, field(r.Intn(tables), r.Intn(3)))
			}
			l = append(l, x)
		}
		p := Split(l, tables)
		met := append(slices.Clone(p.None), p.Many...)
		for i, local := range p.Local {
			met = append(met, local...)
			if !slices.Equal(Ready(l, 0, 1<<i), sorted(p.None, local)) {
				t.Error("at the first table")
			}
		}
		if !slices.Equal(sorted(met), numbers(len(l))) {
			t.Error("parts", met)
		}
		met = nil
		var had uint32
		for _, i := range r.Perm(tables) {
			met = append(met, Ready(l, had, had|1<<i)...)
			had |= 1 << i
		}
		if had != All(tables) || !slices.Equal(sorted(met), numbers(len(l))) {
			t.Error("ready", met)
		}
	}
}

func sorted(lists ...[]int) []int {
	l := slices.Concat(lists...)
	slices.Sort(l)
	return l
}

func numbers(n int) []int {
	var l []int
	for i := range n {
		l = append(l, i)
	}
	return l
}

func TestNeeded(t *testing.T) { // P19.1
	k := api.Block{
		Items:  []api.Term{field(0, 3), binary("+", field(1, 7), field(0, 1))},
		Where:  []api.Term{binary("=", field(0, 3), field(1, 0))},
		Group:  []api.Term{field(0, 0), field(40, 2)},
		Totals: []api.Term{{Kind: api.Total, Op: "SUM", Args: []api.Term{field(0, 5)}}, {Kind: api.Total, Op: "COUNT"}},
		Order:  []api.Key{{Item: 2}},
	}
	for table, want := range map[int][]int{0: {0, 1, 3, 5}, 1: {0, 7}, 2: nil, -1: nil, 40: {2}, math.MaxInt: nil} {
		if got := Needed(k, table); !slices.Equal(got, want) {
			t.Error(table, got)
		}
	}
}

func TestAll(t *testing.T) { // P19.1
	for n := -1; n < 40; n++ {
		if got := bits.OnesCount32(All(n)); got != min(max(n, 0), 31) || All(n)&(All(n)+1) != 0 {
			t.Error(n, got)
		}
	}
	if All(math.MinInt) != 0 || All(math.MaxInt) != 1<<31-1 || All(2) != 3 {
		t.Error("all")
	}
}
