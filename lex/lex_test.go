package lex

import (
	"math/rand"
	"slices"
	"strings"
	"testing"

	"rowlock/api"
)

// told are tokens as texts: each one's kind as a letter, and what it says.
func told(l []api.Token) string {
	var s []string
	for _, t := range l {
		s = append(s, "EWNDTS"[t.Kind:t.Kind+1]+t.Text)
	}
	return strings.Join(s, "|")
}

func TestTokens(t *testing.T) { // P15.1
	for q, want := range map[string]string{
		"": "E", " \t\r\n": "E", "a>=1": "Na|S>=|D1|E", "SELECT * FROM t": "WSELECT|S*|WFROM|Nt|E", "a<>b<=c>=d<e>f=g": "Na|S<>|Nb|S<=|Nc|S>=|Nd|S<|Ne|S>|Nf|S=|Ng|E", "<<==>><>=": "S<|S<=|S=|S>|S>|S<>|S=|E",
		"(),.*+-": "S(|S)|S,|S.|S*|S+|S-|E", "0": "D0|E", "10 9223372036854775807": "D10|D9223372036854775807|E", "''": "T|E", "'it''s'": "Tit's|E", "'a''''b'": "Ta''b|E", "'a' 'b'": "Ta|Tb|E", "''''": "T'|E",
		"'\x00\xff SELECT -'": "T\x00\xff SELECT -|E", "a_1 selec": "Na_1|Nselec|E", "a.b-1": "Na|S.|Nb|S-|D1|E", "1-1": "D1|S-|D1|E", strings.Repeat("a", 24): "N" + strings.Repeat("a", 24) + "|E", "a\tb\nc\rd": "Na|Nb|Nc|Nd|E",
		"'" + strings.Repeat("''", 48) + "'": "T" + strings.Repeat("'", 48) + "|E", "az_z9 z": "Naz_z9|Nz|E", "a<=": "Na|S<=|E", "<>": "S<>|E", ">": "S>|E", "NULL)TRUE": "WNULL|S)|WTRUE|E", "1.5": "D1|S.|D5|E",
	} {
		if l, e := Tokens(q); e != api.OK || told(l) != want {
			t.Errorf("%q: %s, %v", q, told(l), e)
		}
	}
	for _, w := range Words() {
		if l, e := Tokens(w); e != api.OK || told(l) != "W"+w+"|E" {
			t.Error(w, e)
		}
	}
}

func TestErrors(t *testing.T) { // P15.1
	for q, want := range map[string]api.Errno{
		";": api.ErrSyntax, "a;b": api.ErrSyntax, "!": api.ErrSyntax, "\"a\"": api.ErrSyntax, "\x00": api.ErrSyntax, "\x80": api.ErrSyntax, "é": api.ErrSyntax, "\v": api.ErrSyntax, "\u00a0": api.ErrSyntax, "/": api.ErrSyntax, "a@b": api.ErrSyntax, "[": api.ErrSyntax, "`": api.ErrSyntax, "{": api.ErrSyntax,
		"'": api.ErrSyntax, "'a": api.ErrSyntax, "'''": api.ErrSyntax, "'a''": api.ErrSyntax, "Select": api.ErrSyntax, "SELECTS": api.ErrSyntax, "aB": api.ErrSyntax, "A": api.ErrSyntax, "Z": api.ErrSyntax, "aZ": api.ErrSyntax, "_a": api.ErrSyntax, "_": api.ErrSyntax, "NOT_": api.ErrSyntax,
		"1a": api.ErrSyntax, "05": api.ErrSyntax, "00": api.ErrSyntax, "1_0": api.ErrSyntax, "0a": api.ErrSyntax, strings.Repeat("a", 25): api.ErrSyntax, "099999999999999999999": api.ErrSyntax, "99999999999999999999a": api.ErrSyntax,
		"9223372036854775808": api.ErrRange, "99999999999999999999999": api.ErrRange, "18446744073709551617": api.ErrRange, "1 9223372036854775808 ;": api.ErrRange, "; 9223372036854775808": api.ErrSyntax,
		"'" + strings.Repeat("a", 49) + "'": api.ErrLong, "'" + strings.Repeat("''", 49) + "'": api.ErrLong, "'" + strings.Repeat("a", 99): api.ErrSyntax, "'" + strings.Repeat("a", 49) + "' ;": api.ErrLong,
		strings.Repeat(" ", 4097): api.ErrLong, strings.Repeat(";", 4097): api.ErrLong, strings.Repeat(";", 4096): api.ErrSyntax,
		strings.Repeat("a ", 1001): api.ErrMany, strings.Repeat("- ", 1000) + "  ;": api.ErrMany, strings.Repeat("-", 1000) + "'": api.ErrMany, strings.Repeat("-", 1000) + "9223372036854775808": api.ErrMany, strings.Repeat("-", 999) + ";;": api.ErrSyntax,
	} {
		if l, e := Tokens(q); e != want || l != nil {
			t.Errorf("%.40q (%d bytes): %v", q, len(q), e)
		}
	}
	if l, e := Tokens(strings.Repeat("-", 1000) + " \n"); e != api.OK || len(l) != 1001 || l[1000] != (api.Token{At: 1002}) {
		t.Error("1000 tokens", e)
	}
	if l, e := Tokens(strings.Repeat(" ", 4096)); e != api.OK || len(l) != 1 || l[0] != (api.Token{At: 4096}) {
		t.Error("4096 bytes", e)
	}
}

func TestPlaces(t *testing.T) { // P15.2
	r := rand.New(rand.NewSource(15))
	parts := []string{" ", "\t", "\n", "\r", "a", "b9_", "FROM", "IN", "0", "12", "'x'", "'it''s'", "<", "=", ">", "<>", "(", ")", ",", ".", "*", "+", "-"}
	seen := 0
	for range 4000 {
		var q string
		for range r.Intn(12) {
			q += parts[r.Intn(len(parts))]
		}
		l, e := Tokens(q)
		if e != api.OK {
			continue
		}
		seen++
		end := 0
		for i, x := range l {
			shown := x.Text
			if x.Kind == api.TextToken {
				shown = "'" + strings.ReplaceAll(x.Text, "'", "''") + "'"
			}
			if x.At < end || strings.Trim(q[end:x.At], " \t\r\n") != "" || !strings.HasPrefix(q[x.At:], shown) {
				t.Fatalf("%q: token %d at %d", q, i, x.At)
			}
			end = x.At + len(shown)
			if (x.Kind == api.EndToken) != (i == len(l)-1) {
				t.Fatalf("%q: the end", q)
			}
		}
		if end != len(q) {
			t.Fatalf("%q: ends at %d", q, end)
		}
	}
	if seen < 1000 {
		t.Error("too few were taken", seen)
	}
}

func TestWords(t *testing.T) { // P15.1
	l := Words()
	want := strings.Fields("SELECT DISTINCT FROM WHERE GROUP BY ORDER LIMIT AS AND OR NOT IS NULL IN BETWEEN TRUE FALSE ASC DESC COUNT SUM MIN MAX")
	slices.Sort(want)
	if !slices.Equal(l, want) {
		t.Error(l)
	}
	for _, w := range want {
		if !Word(w) || Word(strings.ToLower(w)) || Word(w+" ") || Word(w[:len(w)-1]+"x") {
			t.Error(w)
		}
	}
	l[0] = "X"
	if Words()[0] != "AND" || Word("") || Word("X") {
		t.Error("words")
	}
}
