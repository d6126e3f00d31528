package schema

import "rowlock/api"

// Put is a book's writing.
func Put(b api.Book) ([]byte, api.Errno) {
	if !May(b) {
		return nil, api.ErrArg
	}
	w := []byte{byte(len(b.Tables))}
	for _, t := range b.Tables {
		w = putTable(w, t)
	}
	w = append(w, byte(len(b.Indexes)))
	for _, x := range b.Indexes {
		w = putIndex(w, x)
	}
	return w, api.OK
}

func putTable(w []byte, t api.Table) []byte {
	w = putText(w, t.Name)
	w = append(w, byte(len(t.Columns)))
	for _, c := range t.Columns {
		w = putText(w, c.Name)
		w = append(w, c.Kind)
		w = putNumbers(w, c.Distinct, c.Nulls)
	}
	return putNumbers(w, int(t.First), t.Rows, t.Pages)
}

func putIndex(w []byte, x api.Index) []byte {
	w = putText(w, x.Name)
	w = append(w, byte(x.Table), byte(len(x.Columns)))
	for _, c := range x.Columns {
		w = append(w, byte(c))
	}
	w = putNumbers(w, int(x.Root), x.Leaves, x.High)
	return putNumbers(w, x.Distinct...)
}

func putText(w []byte, s string) []byte {
	return append(append(w, byte(len(s))), s...)
}

func putNumbers(w []byte, l ...int) []byte {
	for _, n := range l {
		w = append(w, byte(n>>24), byte(n>>16), byte(n>>8), byte(n))
	}
	return w
}

// Get is the book that is written.
func Get(b []byte) (api.Book, api.Errno) {
	r := &reader{rest: b}
	var book api.Book
	for range r.count() {
		book.Tables = append(book.Tables, r.table())
	}
	for range r.count() {
		book.Indexes = append(book.Indexes, r.index())
	}
	if r.short || len(r.rest) > 0 || !May(book) {
		return api.Book{}, api.ErrForm
	}
	return book, api.OK
}

// reader takes things from a book's writing, one behind the other; short: something wasn't there.
type reader struct {
	rest  []byte
	short bool
}

func (r *reader) take(size int) []byte {
	if size > len(r.rest) {
		r.short, r.rest = true, nil
		return make([]byte, size)
	}
	b := r.rest[:size]
	r.rest = r.rest[size:]
	return b
}

func (r *reader) count() int {
	return int(r.take(1)[0])
}

func (r *reader) text() string {
	return string(r.take(r.count()))
}

func (r *reader) number() int {
	n := 0
	for _, x := range r.take(4) {
		n = n<<8 | int(x)
	}
	return n
}

func (r *reader) table() api.Table {
	t := api.Table{Name: r.text()}
	for range r.count() {
		t.Columns = append(t.Columns, api.Column{Name: r.text(), Kind: r.take(1)[0], Distinct: r.number(), Nulls: r.number()})
	}
	t.First, t.Rows, t.Pages = uint32(r.number()), r.number(), r.number()
	return t
}

func (r *reader) index() api.Index {
	x := api.Index{Name: r.text(), Table: r.count()}
	for range r.count() {
		x.Columns = append(x.Columns, r.count())
	}
	x.Root, x.Leaves, x.High = uint32(r.number()), r.number(), r.number()
	for range x.Columns {
		x.Distinct = append(x.Distinct, r.number())
	}
	return x
}
