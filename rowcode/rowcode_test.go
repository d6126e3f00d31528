package rowcode

import (
	"bytes"
	"math"
	"math/rand"
	"slices"
	"strings"
	"testing"

	"rowlock/api"
)

func num(n int64) api.Value   { return api.Value{Kind: api.Int, Int: n} }
func bit(n int64) api.Value   { return api.Value{Kind: api.Bool, Int: n} }
func text(s string) api.Value { return api.Value{Kind: api.Text, Text: s} }

func TestPut(t *testing.T) { // P4.1
	long := strings.Repeat("x", 48)
	for _, x := range []struct {
		row  []api.Value
		want string
	}{
		{nil, "\x00"}, {[]api.Value{{}, text("a")}, "\x02\x00\x03\x01a"}, {[]api.Value{num(1)}, "\x01\x01\x00\x00\x00\x00\x00\x00\x00\x01"},
		{[]api.Value{num(-2)}, "\x01\x01\xff\xff\xff\xff\xff\xff\xff\xfe"}, {[]api.Value{num(math.MinInt64)}, "\x01\x01\x80\x00\x00\x00\x00\x00\x00\x00"},
		{[]api.Value{num(0x0102030405060708)}, "\x01\x01\x01\x02\x03\x04\x05\x06\x07\x08"}, {[]api.Value{bit(0), bit(1)}, "\x02\x02\x00\x02\x01"},
		{[]api.Value{text(""), text(long)}, "\x02\x03\x00\x03\x30" + long}, {make([]api.Value, 255), "\xff" + strings.Repeat("\x00", 255)},
	} {
		b, e := Put(x.row)
		if e != api.OK || string(b) != x.want {
			t.Errorf("%v: %q, %v", x.row, b, e)
		}
		if Size(x.row) != len(x.want) {
			t.Errorf("%v: size %d", x.row, Size(x.row))
		}
		row, e := Get([]byte(x.want))
		if e != api.OK || !slices.Equal(row, x.row) {
			t.Errorf("%q: %v, %v", x.want, row, e)
		}
	}
	bad := append(make([]api.Value, 300), api.Value{Kind: 4})
	for _, x := range []struct {
		row  []api.Value
		want api.Errno
	}{{[]api.Value{{Int: 1}}, api.ErrArg}, {[]api.Value{num(1), bit(2)}, api.ErrArg}, {[]api.Value{text(long + "x")}, api.ErrArg}, {make([]api.Value, 256), api.ErrMany}, {bad, api.ErrArg}} {
		if b, e := Put(x.row); e != x.want || b != nil || Size(x.row) != 0 {
			t.Errorf("%d values: %q, %v", len(x.row), b, e)
		}
	}
}

func TestGetRefuses(t *testing.T) { // P4.1
	for _, x := range []struct {
		b    string
		want api.Errno
	}{
		{"", api.ErrShort}, {"\x01", api.ErrShort}, {"\x02\x00", api.ErrShort}, {"\x01\x01\x00\x00\x00\x00\x00\x00\x00", api.ErrShort}, {"\x01\x02", api.ErrShort}, {"\x01\x03", api.ErrShort},
		{"\x01\x03\x02a", api.ErrShort}, {"\x01\x03\x30", api.ErrShort}, {"\x01\x04", api.ErrKind}, {"\x01\xff", api.ErrKind}, {"\x02\x04\x02\x05", api.ErrKind}, {"\x01\x02\x02", api.ErrForm}, {"\x01\x02\xff", api.ErrForm},
		{"\x01\x03\x31", api.ErrLong}, {"\x01\x03\xff", api.ErrLong}, {"\x01\x03\x31" + strings.Repeat("a", 49), api.ErrLong}, {"\x00\x00", api.ErrForm}, {"\x01\x00\x00", api.ErrForm},
		{"\x02\x02\x07\x04", api.ErrForm}, {"\x02\x03\x40\x04", api.ErrLong}, {"\x03\x00\x00", api.ErrShort},
	} {
		if row, e := Get([]byte(x.b)); e != x.want || row != nil {
			t.Errorf("%q: %v, %v", x.b, row, e)
		}
	}
}

func TestThereAndBack(t *testing.T) { // P4.2
	r := rand.New(rand.NewSource(4))
	for range 3000 {
		b := make([]byte, r.Intn(24))
		for i := range b {
			b[i] = byte(r.Intn(5))
		}
		row, e := Get(b)
		if e != api.OK {
			continue
		}
		if again, e := Put(row); e != api.OK || !bytes.Equal(again, b) {
			t.Errorf("%q: %v, %q, %v", b, row, again, e)
		}
	}
	b := []byte("\x01\x03\x01a")
	row, _ := Get(b)
	b[3] = 'b'
	if row[0].Text != "a" {
		t.Error("the row hangs on the bytes that were handed in")
	}
}

func TestFits(t *testing.T) { // P4.1
	for _, x := range []struct {
		row   []api.Value
		kinds []uint8
		want  bool
	}{
		{nil, nil, true}, {[]api.Value{num(1), {}, text("")}, []uint8{1, 2, 3}, true}, {[]api.Value{{}, {}}, []uint8{1, 9}, true}, {[]api.Value{num(1)}, []uint8{2}, false}, {[]api.Value{num(1)}, nil, false},
		{nil, []uint8{1}, false}, {[]api.Value{num(1)}, []uint8{1, 1}, false}, {[]api.Value{bit(2)}, []uint8{2}, false}, {[]api.Value{{Int: 1}}, []uint8{1}, false}, {[]api.Value{{Kind: 4}}, []uint8{4}, false}, {[]api.Value{num(0)}, []uint8{0}, false},
	} {
		if Fits(x.row, x.kinds) != x.want {
			t.Errorf("%v, %v", x.row, x.kinds)
		}
	}
}
