package calc

import (
	"math"
	"math/big"
	"math/rand"
	"testing"

	"rowlock/api"
)

const least, most = math.MinInt64, math.MaxInt64

// numbers are such at all edges.
func numbers() []int64 {
	return []int64{least, least + 1, -1 << 32, -1<<31 - 1, -3037000500, -3037000499, -3, -2, -1, 0, 1, 2, 3, 3037000499, 3037000500, 1 << 31, 1 << 32, 1 << 62, most - 1, most}
}

// right is what a call must answer, of the number as it is without bounds.
func right(n *big.Int) (int64, bool) {
	if n.IsInt64() {
		return n.Int64(), true
	}
	return 0, false
}

func TestPairs(t *testing.T) { // P3.1
	for _, a := range numbers() {
		x := big.NewInt(a)
		got, ok := Neg(a)
		if want, fine := right(new(big.Int).Neg(x)); got != want || ok != fine {
			t.Errorf("-%d: %d, %v", a, got, ok)
		}
		for _, b := range numbers() {
			y := big.NewInt(b)
			for _, c := range []struct {
				op   string
				do   func(a, b int64) (int64, bool)
				want *big.Int
			}{{"+", Add, new(big.Int).Add(x, y)}, {"-", Sub, new(big.Int).Sub(x, y)}, {"*", Mul, new(big.Int).Mul(x, y)}} {
				want, fine := right(c.want)
				if got, ok := c.do(a, b); got != want || ok != fine {
					t.Errorf("%d %s %d: %d, %v", a, c.op, b, got, ok)
				}
				v, ok := Do(c.op, api.Value{Kind: api.Int, Int: a}, api.Value{Kind: api.Int, Int: b})
				if fine && v != (api.Value{Kind: api.Int, Int: want}) || !fine && v != (api.Value{}) || ok != fine {
					t.Errorf("Do: %d %s %d: %v, %v", a, c.op, b, v, ok)
				}
			}
		}
	}
}

func TestDo(t *testing.T) { // P3.1
	one, null := api.Value{Kind: api.Int, Int: 1}, api.Value{}
	for _, op := range []string{"+", "-", "*"} {
		for _, x := range [][2]api.Value{{null, one}, {one, null}, {null, null}, {{Int: most}, one}, {{Kind: api.Int, Int: most}, {Int: most, Text: "a"}}} {
			if v, ok := Do(op, x[0], x[1]); v != null || !ok {
				t.Errorf("%v %s %v: %v, %v", x[0], op, x[1], v, ok)
			}
		}
		for _, w := range []api.Value{{Kind: api.Bool, Int: 1}, {Kind: api.Text, Text: "1"}, {Kind: 4}, {Kind: 255}} {
			for _, x := range [][2]api.Value{{w, one}, {one, w}, {w, null}, {null, w}} {
				if v, ok := Do(op, x[0], x[1]); v != null || ok {
					t.Errorf("%v %s %v: %v, %v", x[0], op, x[1], v, ok)
				}
			}
		}
	}
	for _, op := range []string{"", "/", "=", "++"} {
		for _, v := range []api.Value{one, null} {
			if got, ok := Do(op, v, one); got != null || ok {
				t.Errorf("%q: %v, %v", op, got, ok)
			}
		}
	}
}

func TestSum(t *testing.T) { // P3.1, P3.2
	for _, x := range []struct {
		l    []int64
		want int64
		ok   bool
	}{
		{nil, 0, true}, {[]int64{most, 1, -1}, most, true}, {[]int64{most, 1}, 0, false}, {[]int64{least, -1}, 0, false}, {[]int64{least, -1, 1}, least, true},
		{[]int64{most, most, least, least, 2}, 0, true}, {[]int64{least, least, most, most}, -2, true}, {[]int64{least}, least, true}, {[]int64{most, most}, 0, false}, {[]int64{least, least}, 0, false},
	} {
		if got, ok := Sum(x.l); got != x.want || ok != x.ok {
			t.Errorf("%v: %d, %v", x.l, got, ok)
		}
	}
	r := rand.New(rand.NewSource(3))
	for range 300 {
		l := make([]int64, r.Intn(9))
		all := new(big.Int)
		for i := range l {
			l[i] = numbers()[r.Intn(len(numbers()))]
			all.Add(all, big.NewInt(l[i]))
		}
		want, fine := right(all)
		for range 4 {
			r.Shuffle(len(l), func(i, k int) { l[i], l[k] = l[k], l[i] })
			if got, ok := Sum(l); got != want || ok != fine {
				t.Errorf("%v: %d, %v", l, got, ok)
			}
		}
	}
}

func TestTimes(t *testing.T) { // P3.1
	l := []uint64{0, 1, 2, 3, 7, 1 << 31, 1<<32 - 1, 1 << 32, 1 << 63, math.MaxUint64 - 1, math.MaxUint64}
	for _, a := range l {
		for _, b := range l {
			for _, c := range l {
				want := uint64(math.MaxUint64)
				n := new(big.Int).Mul(new(big.Int).SetUint64(a), new(big.Int).SetUint64(b))
				if c != 0 {
					n.Div(n, new(big.Int).SetUint64(c))
				}
				if n.Sign() == 0 || c != 0 && n.IsUint64() {
					want = n.Uint64()
				}
				if got := Times(a, b, c); got != want {
					t.Errorf("%d times %d by %d: %d", a, b, c, got)
				}
			}
		}
	}
}
