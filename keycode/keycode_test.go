package keycode

import (
	"math"
	"math/rand"
	"slices"
	"strings"
	"testing"

	"rowlock/api"
	"rowlock/val"
)

func num(n int64) api.Value   { return api.Value{Kind: api.Int, Int: n} }
func bit(n int64) api.Value   { return api.Value{Kind: api.Bool, Int: n} }
func text(s string) api.Value { return api.Value{Kind: api.Text, Text: s} }

// values are such at all edges.
func values() []api.Value {
	return []api.Value{{}, num(math.MinInt64), num(-1), num(0), num(1), num(255), num(256), num(math.MaxInt64), bit(0), bit(1), text(""), text("\x00"), text("\x00\x00"), text("\x00\x01"), text("\x00\xff"), text("\x01"),
		text("a"), text("a\x00"), text("a\x00b"), text("a\x01"), text("ab"), text("\xff"), text("\xff\xff"), text(strings.Repeat("\x00", 48)), text(strings.Repeat("z", 48))}
}

// rows are all of at most two of these values.
func rows() [][]api.Value {
	l := [][]api.Value{nil}
	for _, a := range values() {
		l = append(l, []api.Value{a})
		for _, b := range values() {
			l = append(l, []api.Value{a, b})
		}
	}
	return l
}

func TestPut(t *testing.T) { // P5.1
	for _, x := range []struct {
		row  []api.Value
		want string
	}{
		{nil, ""}, {[]api.Value{{}, bit(0)}, "\x01\x03\x00"}, {[]api.Value{bit(1)}, "\x03\x01"}, {[]api.Value{text("a")}, "\x04a\x00\x01"}, {[]api.Value{text("")}, "\x04\x00\x01"},
		{[]api.Value{text("\x00b\x00")}, "\x04\x00\xffb\x00\xff\x00\x01"}, {[]api.Value{num(0)}, "\x02\x80\x00\x00\x00\x00\x00\x00\x00"}, {[]api.Value{num(-1)}, "\x02\x7f\xff\xff\xff\xff\xff\xff\xff"},
		{[]api.Value{num(math.MinInt64)}, "\x02\x00\x00\x00\x00\x00\x00\x00\x00"}, {[]api.Value{num(0x0102030405060708)}, "\x02\x81\x02\x03\x04\x05\x06\x07\x08"},
	} {
		if s, e := Put(x.row); s != x.want || e != api.OK {
			t.Errorf("%v: %q, %v", x.row, s, e)
		}
	}
	for _, v := range []api.Value{{Int: 1}, {Kind: 2, Int: 2}, {Kind: 4}, text(strings.Repeat("a", 49)), {Kind: 1, Text: "a"}} {
		if s, e := Put([]api.Value{num(1), v}); s != "" || e != api.ErrArg {
			t.Errorf("%v: %q, %v", v, s, e)
		}
	}
}

func TestGetRefuses(t *testing.T) { // P5.1
	for _, x := range []struct {
		s    string
		want api.Errno
	}{
		{"\x00", api.ErrKind}, {"\x05", api.ErrKind}, {"\xff", api.ErrKind}, {"\x01\x06", api.ErrKind}, {"\x02", api.ErrShort}, {"\x02\x80\x00\x00\x00\x00\x00\x00", api.ErrShort}, {"\x03", api.ErrShort}, {"\x03\x02", api.ErrForm}, {"\x03\xff\x09", api.ErrForm},
		{"\x04", api.ErrShort}, {"\x04ab", api.ErrShort}, {"\x04a\x00", api.ErrShort}, {"\x04a\x00\xff", api.ErrShort}, {"\x04a\x00\x00", api.ErrForm}, {"\x04a\x00\x02", api.ErrForm}, {"\x04a\x00\xfe\x00", api.ErrForm},
		{"\x04" + strings.Repeat("a", 49) + "\x00\x01", api.ErrLong}, {"\x04" + strings.Repeat("a", 49) + "\x00\x01\x09", api.ErrLong}, {"\x04" + strings.Repeat("a", 60), api.ErrShort}, {"\x04" + strings.Repeat("a", 60) + "\x00\x07", api.ErrForm},
		{"\x04" + strings.Repeat("\x00\xff", 49) + "\x00\x01", api.ErrLong}, {"\x01\x03\x05\x09", api.ErrForm},
	} {
		if row, e := Get(x.s); e != x.want || row != nil {
			t.Errorf("%q: %v, %v", x.s, row, e)
		}
	}
}

func TestThereAndBack(t *testing.T) { // P5.2
	for _, row := range rows() {
		s, _ := Put(row)
		if got, e := Get(s); e != api.OK || !slices.Equal(got, row) {
			t.Errorf("%v: %v, %v", row, got, e)
		}
	}
	r := rand.New(rand.NewSource(5))
	for range 20000 {
		b := make([]byte, r.Intn(14))
		for i := range b {
			b[i] = "\x00\x01\x02\x03\x04\xffa"[r.Intn(7)]
		}
		if row, e := Get(string(b)); e == api.OK {
			if s, e := Put(row); e != api.OK || s != string(b) {
				t.Errorf("%q: %v, %q", b, row, s)
			}
		}
	}
}

func TestOrder(t *testing.T) { // P5.3, P5.4
	l := rows()
	keys := make([]string, len(l))
	for i, row := range l {
		keys[i], _ = Put(row)
	}
	for i, a := range l {
		for k, b := range l {
			if strings.Compare(keys[i], keys[k]) != val.CompareRows(a, b, nil) {
				t.Errorf("%v to %v", a, b)
			}
			if strings.HasPrefix(keys[k], keys[i]) != (len(a) <= len(b) && val.Same(a, b[:min(len(a), len(b))])) {
				t.Errorf("%v begins %v", a, b)
			}
		}
	}
}

func TestBehind(t *testing.T) { // P5.1
	for _, x := range []struct {
		s, want string
		ok      bool
	}{{"", "", false}, {"\xff", "", false}, {"\xff\xff\xff", "", false}, {"a", "b", true}, {"ab\x00", "ab\x01", true}, {"a\xff\xff", "b", true}, {"\xfe", "\xff", true}, {"\xff\x00", "\xff\x01", true}, {"\x7f", "\x80", true}, {"\xc3\xa9", "\xc3\xaa", true}} {
		if s, ok := Behind(x.s); s != x.want || ok != x.ok {
			t.Errorf("%q: %q, %v", x.s, s, ok)
		}
	}
	for kind, want := range []string{"\x01", "\x02", "\x03", "\x04", "\x05", "\x05"} {
		if got := Least(uint8(kind)); got != want {
			t.Errorf("%d: %q", kind, got)
		}
	}
	if Least(255) != "\x05" {
		t.Error("255")
	}
}
