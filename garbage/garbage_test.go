// Package garbage has no program: its test hands anything to each call of each layer.
package garbage

import (
	"fmt"
	"maps"
	"math"
	"math/rand"
	"reflect"
	"slices"
	"testing"
	"time"

	"rowlock/api"
	"rowlock/audit"
	"rowlock/bind"
	"rowlock/btree"
	"rowlock/calc"
	"rowlock/cost"
	"rowlock/disk"
	"rowlock/dynamic"
	"rowlock/engine"
	"rowlock/explain"
	"rowlock/heap"
	"rowlock/joins"
	"rowlock/keycode"
	"rowlock/leaf"
	"rowlock/lex"
	"rowlock/load"
	"rowlock/logic"
	"rowlock/parse"
	"rowlock/paths"
	"rowlock/plan"
	"rowlock/pool"
	"rowlock/rowcode"
	"rowlock/sarg"
	"rowlock/scans"
	"rowlock/schema"
	"rowlock/shape"
	"rowlock/slots"
	"rowlock/split"
	"rowlock/stats"
	"rowlock/term"
	"rowlock/val"
)

// calls are all of all layers, methods with their object ahead of the arguments.
func calls() map[string]any {
	return map[string]any{
		"val.May": val.May, "val.Compare": val.Compare, "val.Same": val.Same, "val.CompareRows": val.CompareRows, "val.Show": val.Show, "val.Read": val.Read,
		"logic.Not": logic.Not, "logic.And": logic.And, "logic.Or": logic.Or, "logic.Of": logic.Of, "logic.Value": logic.Value, "logic.Test": logic.Test,
		"calc.Add": calc.Add, "calc.Sub": calc.Sub, "calc.Mul": calc.Mul, "calc.Neg": calc.Neg, "calc.Do": calc.Do, "calc.Sum": calc.Sum, "calc.Times": calc.Times,
		"rowcode.Put": rowcode.Put, "rowcode.Get": rowcode.Get, "rowcode.Size": rowcode.Size, "rowcode.Fits": rowcode.Fits,
		"keycode.Put": keycode.Put, "keycode.Get": keycode.Get, "keycode.Behind": keycode.Behind, "keycode.Least": keycode.Least,
		"disk.New": disk.New, "disk.Load": disk.Load, "disk.Put": disk.Put, "disk.Get": disk.Get, "disk.Len": (*disk.Disk).Len, "disk.Read": (*disk.Disk).Read, "disk.Write": (*disk.Disk).Write, "disk.Take": (*disk.Disk).Take, "disk.Left": (*disk.Disk).Left, "disk.Image": (*disk.Disk).Image, "disk.Copy": (*disk.Disk).Copy,
		"pool.New": pool.New, "pool.Get": (*pool.Pool).Get, "pool.Head": (*pool.Pool).Head, "pool.Reads": (*pool.Pool).Reads, "pool.Hits": (*pool.Pool).Hits, "pool.Kept": (*pool.Pool).Kept, "pool.Pages": (*pool.Pool).Pages, "pool.Reset": (*pool.Pool).Reset,
		"slots.New": slots.New, "slots.May": slots.May, "slots.Count": slots.Count, "slots.Room": slots.Room, "slots.Add": slots.Add, "slots.Get": slots.Get, "slots.All": slots.All, "slots.Link": slots.Link,
		"heap.Fill": heap.Fill, "heap.Fetch": heap.Fetch, "heap.Scan": heap.Scan, "heap.Walk": heap.Walk, "heap.Pages": heap.Pages,
		"leaf.Compare": leaf.Compare, "leaf.Rise": leaf.Rise, "leaf.LeafSize": leaf.LeafSize, "leaf.InnerSize": leaf.InnerSize, "leaf.PutLeaf": leaf.PutLeaf, "leaf.GetLeaf": leaf.GetLeaf, "leaf.PutInner": leaf.PutInner, "leaf.GetInner": leaf.GetInner, "leaf.Child": leaf.Child,
		"btree.Build": btree.Build, "btree.Insert": btree.Insert, "btree.Range": btree.Range, "btree.Walk": btree.Walk, "btree.Check": btree.Check,
		"schema.Name": schema.Name, "schema.May": schema.May, "schema.Put": schema.Put, "schema.Get": schema.Get, "schema.Store": schema.Store, "schema.Load": schema.Load, "schema.Kinds": schema.Kinds, "schema.Find": schema.Find, "schema.Same": schema.Same,
		"load.May": load.May, "load.Load": load.Load, "load.Append": load.Append, "load.Analyze": load.Analyze, "load.Entries": load.Entries,
		"audit.Check": audit.Check, "audit.Rows": audit.Rows, "audit.Row": audit.Row, "audit.Database": audit.Database,
		"lex.Tokens": lex.Tokens, "lex.Words": lex.Words, "lex.Word": lex.Word,
		"parse.Parse": parse.Parse, "parse.Print": parse.Print, "parse.Text": parse.Text, "parse.Same": parse.Same, "parse.SameTerm": parse.SameTerm,
		"bind.Bind": bind.Bind, "bind.Kind": bind.Kind, "bind.Conjuncts": bind.Conjuncts, "bind.Fields": bind.Fields, "bind.Uses": bind.Uses,
		"term.Eval": term.Eval, "term.Truth": term.Truth, "term.Holds": term.Holds, "term.Constant": term.Constant, "term.Fold": term.Fold,
		"split.Split": split.Split, "split.Ready": split.Ready, "split.Needed": split.Needed, "split.All": split.All,
		"stats.Of": stats.Of, "stats.Rows": stats.Rows, "stats.Part": stats.Part, "stats.Add": stats.Add, "stats.Mul": stats.Mul,
		"sarg.Ranges": sarg.Ranges, "sarg.Equal": sarg.Equal, "sarg.Between": sarg.Between, "sarg.Probe": sarg.Probe, "sarg.In": sarg.In,
		"paths.All": paths.All, "paths.Order": paths.Order, "paths.Conds": paths.Conds, "paths.Same": paths.Same, "paths.Has": paths.Has,
		"plan.Next": plan.Next, "plan.Order": plan.Order, "plan.Needs": plan.Needs, "plan.May": plan.May, "plan.Same": plan.Same, "plan.SameStep": plan.SameStep, "plan.All": plan.All,
		"cost.Path": cost.Path, "cost.Sort": cost.Sort, "cost.Step": cost.Step, "cost.Plan": cost.Plan,
		"dynamic.Choose": dynamic.Choose, "dynamic.Greedy": dynamic.Greedy,
		"scans.Scan": scans.Scan, "scans.Probe": scans.Probe, "joins.Run": joins.Run, "joins.Step": joins.Step,
		"shape.Shape": shape.Shape, "shape.Total": shape.Total, "shape.Less": shape.Less,
		"engine.New": engine.New, "engine.Query": (*engine.Engine).Query, "engine.Bind": (*engine.Engine).Bind, "engine.Plan": (*engine.Engine).Plan, "engine.With": (*engine.Engine).With, "engine.Book": (*engine.Engine).Book, "engine.Asked": (*engine.Engine).Asked, "engine.Reads": (*engine.Engine).Reads,
		"explain.Plan": explain.Plan, "explain.Answer": explain.Answer, "explain.Values": explain.Values,
	}
}

// maker makes anything of any type; things of the program are sometimes such as may be.
type maker struct {
	*rand.Rand
	image []byte // of a disk that is all right
	book  api.Book
}

func (r maker) number() int64 {
	if r.Intn(9) > 0 {
		return int64(r.Intn(8) - 2)
	}
	return []int64{math.MinInt64, math.MaxInt64, -1 << 31, 1<<31 - 1, 1 << 31, 31, 32, 40, 255, 4096, 1 << 40}[r.Intn(11)]
}

func (r maker) text() string {
	l := []string{"", "a", "t", "x", "y", "'a'", "=", "<", ">=", "AND", "OR", "NOT", "-", "+", "*", "SUM", "COUNT", "MIN", "MAX", "\x02\x80\x00\x00\x00\x00\x00\x00\x01", "\x01", "\x04a\x00\x01", "\xff", "NULL", "1 | 'b'"}
	switch r.Intn(12) {
	case 0:
		b := make([]byte, r.Intn(60))
		r.Read(b)
		return string(b)
	case 1:
		q := []string{"SELECT x FROM t WHERE x = 1 ORDER BY x", "SELECT * FROM t, t AS u WHERE t.x = u.y", "SELECT SUM(x), y FROM t GROUP BY y LIMIT 2", "SELECT x FROM t WHERE x * 9223372036854775807 > y"}
		return q[r.Intn(len(q))]
	}
	return l[r.Intn(len(l))]
}

// disk is nil, or a new one, or has anything on it.
func (r maker) disk() *disk.Disk {
	switch r.Intn(5) {
	case 0:
		return nil
	case 1:
		d, _ := disk.New(1 + r.Intn(5))
		return d
	}
	d, _ := disk.Load(r.spoilt())
	return d
}

// spoilt is the image of a disk that is all right, or has a few bytes changed.
func (r maker) spoilt() []byte {
	b := append([]byte(nil), r.image...)
	for range r.Intn(4) {
		b[r.Intn(len(b)/512)*512+r.Intn(60)] = byte(r.Intn(256))
	}
	return b
}

func (r maker) pool() *pool.Pool {
	p, _ := pool.New(r.disk(), 1+r.Intn(4))
	return p
}

// made is a value of a type, so deep; small things are told first.
func (r maker) made(t reflect.Type, deep int) reflect.Value {
	v := reflect.New(t).Elem()
	switch x := v.Addr().Interface().(type) {
	case **disk.Disk:
		*x = r.disk()
		return v
	case **pool.Pool:
		*x = r.pool()
		return v
	case **engine.Engine:
		if r.Intn(5) > 0 {
			*x = engine.New(r.pool())
		}
		return v
	case *api.Book:
		if r.Intn(2) == 0 {
			*x = r.book
			return v
		}
	case *[]byte:
		if r.Intn(2) == 0 {
			at := r.Intn(len(r.image)/512) * 512
			*x = r.spoilt()[at : at+512]
			return v
		}
	}
	switch t.Kind() {
	case reflect.Bool:
		v.SetBool(r.Intn(2) == 0)
	case reflect.Int, reflect.Int64:
		v.SetInt(r.number())
	case reflect.Uint8, reflect.Uint16, reflect.Uint32, reflect.Uint64:
		v.SetUint(uint64(r.number()) & (1<<t.Bits() - 1))
	case reflect.String:
		v.SetString(r.text())
	case reflect.Slice:
		if deep > 0 {
			for range r.Intn(4) {
				v.Set(reflect.Append(v, r.made(t.Elem(), deep-1)))
			}
		}
	case reflect.Struct:
		for i := range t.NumField() {
			v.Field(i).Set(r.made(t.Field(i).Type, deep-1))
		}
	case reflect.Pointer:
		if deep > 0 && r.Intn(3) > 0 {
			v.Set(r.made(t.Elem(), deep-1).Addr())
		}
	case reflect.Func:
		if r.Intn(3) > 0 {
			v.Set(reflect.MakeFunc(t, func([]reflect.Value) []reflect.Value { return []reflect.Value{reflect.ValueOf(r.Intn(4) > 0)} }))
		}
	}
	return v
}

// told are arguments as a text: a disk's pages and a pool may change.
func told(l []reflect.Value) string {
	s := ""
	for _, v := range l {
		if k := v.Kind(); k != reflect.Pointer && k != reflect.Func {
			s += fmt.Sprintf("%#v;", v.Interface())
		}
	}
	return s
}

// errno is the error that a call answered.
func errno(l []reflect.Value) api.Errno {
	for _, v := range l {
		if e, ok := v.Interface().(api.Errno); ok {
			return e
		}
	}
	return api.OK
}

// empty tells whether a result is its zero value, or a list of nothing.
func empty(v reflect.Value) bool {
	if v.Kind() == reflect.Slice {
		return v.Len() == 0
	}
	return v.IsZero()
}

// TestAnything: R1 (all calls end, none panics), R2 (with an error all other results are zero), R3 (what is handed in isn't changed), R5 (what is answered hangs on the arguments).
func TestAnything(t *testing.T) {
	s := api.Script{Tables: []api.Table{{Name: "t", Columns: []api.Column{{Name: "x", Kind: api.Int}, {Name: "y", Kind: api.Int}}}, {Name: "u", Columns: []api.Column{{Name: "x", Kind: api.Text}}}}, Indexes: []api.Index{{Name: "tx", Columns: []int{0}}, {Name: "tyx", Columns: []int{1, 0}}, {Name: "ux", Table: 1, Columns: []int{0}}}, Rows: [][][]api.Value{nil, {{{Kind: api.Text, Text: "a"}}}}}
	for i := range int64(60) {
		s.Rows[0] = append(s.Rows[0], []api.Value{{Kind: api.Int, Int: i % 7}, {Kind: api.Int, Int: i % 3}})
	}
	d, b, e := load.Load(30, s)
	if e != api.OK {
		t.Fatal(e)
	}
	r := maker{Rand: rand.New(rand.NewSource(1)), image: d.Image(), book: b}
	all := calls()
	for _, name := range slices.Sorted(maps.Keys(all)) {
		f := reflect.ValueOf(all[name])
		for range 400 {
			var args []reflect.Value
			for i := range f.Type().NumIn() {
				in := f.Type().In(i)
				if name == "plan.All" && i == 2 {
					args = append(args, reflect.ValueOf(r.Intn(6)-1))
					continue
				}
				args = append(args, r.made(in, 5))
			}
			do(t, name, f, args)
		}
	}
}

// do does a call twice, and looks at it.
func do(t *testing.T, name string, f reflect.Value, args []reflect.Value) {
	t.Helper()
	before := told(args)
	begin := time.Now()
	defer func() {
		if x := recover(); x != nil {
			t.Fatalf("%s panics at %s: %v", name, before, x)
		}
		if time.Since(begin) > 30*time.Second {
			t.Errorf("%s takes long at %s", name, before)
		}
	}()
	run := f.Call
	if f.Type().IsVariadic() {
		run = f.CallSlice
	}
	out := run(args)
	if told(args) != before {
		t.Fatalf("%s changed what was handed in: %s", name, before)
	}
	if errno(out) != api.OK {
		for _, v := range out {
			if _, ok := v.Interface().(api.Errno); !ok && !empty(v) {
				t.Fatalf("%s: something beside an error at %s: %#v", name, before, v.Interface())
			}
		}
	}
	// Of calls that hang on what is handed in alone, the answer is the same once more.
	for _, a := range args {
		if k := a.Kind(); k == reflect.Pointer || k == reflect.Func {
			return
		}
	}
	for i, again := range run(args) {
		if !reflect.DeepEqual(again.Interface(), out[i].Interface()) {
			t.Fatalf("%s: another answer at %s", name, before)
		}
	}
}
