// Package val is layer 1: see shared/doc/01-val.md.
package val

import (
	"cmp"
	"strconv"
	"strings"

	"rowlock/api"
)

// May tells whether a value may be.
func May(v api.Value) bool {
	switch v.Kind {
	case api.Null:
		return v == api.Value{}
	case api.Int:
		return v == api.Value{Kind: api.Int, Int: v.Int}
	case api.Bool:
		return v == api.Value{Kind: api.Bool, Int: v.Int & 1}
	case api.Text:
		return v.Int == 0 && len(v.Text) <= api.MaxText
	}
	return false
}

// Compare is how two values stand to each other.
func Compare(a, b api.Value) int {
	if k := kind(a); k != kind(b) {
		return cmp.Compare(k, kind(b))
	}
	switch a.Kind {
	case api.Int, api.Bool:
		return cmp.Compare(a.Int, b.Int)
	case api.Text:
		return strings.Compare(a.Text, b.Text)
	}
	return 0
}

// kind is a value's kind, as it counts among others: one above Text is Null.
func kind(v api.Value) uint8 {
	if v.Kind > api.Text {
		return api.Null
	}
	return v.Kind
}

// Same tells whether two rows are the same.
func Same(a, b []api.Value) bool {
	return CompareRows(a, b, nil) == 0
}

// CompareRows is how two rows stand to each other.
func CompareRows(a, b []api.Value, down []bool) int {
	for i := range min(len(a), len(b)) {
		c := Compare(a[i], b[i])
		if c == 0 {
			continue
		}
		if i < len(down) && down[i] {
			return -c
		}
		return c
	}
	return cmp.Compare(len(a), len(b))
}

// Show is a value as it is written.
func Show(v api.Value) string {
	switch v.Kind {
	case api.Int:
		return strconv.FormatInt(v.Int, 10)
	case api.Bool:
		if v.Int == 0 {
			return "FALSE"
		}
		return "TRUE"
	case api.Text:
		return "'" + strings.ReplaceAll(v.Text, "'", "''") + "'"
	}
	return "NULL"
}

// Read is the value that is shown so.
func Read(s string) (api.Value, bool) {
	v := guess(s)
	if !May(v) || Show(v) != s {
		return api.Value{}, false
	}
	return v, true
}

// guess is the only value that may be shown so; whether it is, Show tells.
func guess(s string) api.Value {
	switch {
	case s == "TRUE":
		return api.Value{Kind: api.Bool, Int: 1}
	case s == "FALSE":
		return api.Value{Kind: api.Bool}
	case len(s) > 1 && s[0] == '\'':
		return api.Value{Kind: api.Text, Text: strings.ReplaceAll(s[1:len(s)-1], "''", "'")}
	}
	n, err := strconv.ParseInt(s, 10, 64)
	if err != nil {
		return api.Value{}
	}
	return api.Value{Kind: api.Int, Int: n}
}
