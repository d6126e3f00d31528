package schema

import (
	"slices"

	"rowlock/api"
	"rowlock/disk"
	"rowlock/pool"
)

// body is how many bytes of a page stand behind its head.
const body = api.PageSize - api.HeadSize

// Store puts a book onto a disk.
func Store(d *disk.Disk, b api.Book) api.Errno {
	w, e := Put(b)
	if d == nil || e != api.OK {
		return api.ErrArg
	}
	pages := []uint32{0}
	for len(pages)*body < len(w) {
		page, e := d.Take()
		if e != api.OK {
			return e
		}
		pages = append(pages, page)
	}
	for i, page := range pages {
		var next uint32
		if i+1 < len(pages) {
			next = pages[i+1]
		}
		part := w[:min(len(w), body)]
		w = w[len(part):]
		x := disk.Put(api.Head{Kind: api.BookPage, Count: uint16(len(part)), Next: next})
		copy(x[api.HeadSize:], part)
		d.Write(page, x)
	}
	return api.OK
}

// sheet is a page of a book, as it is met.
type sheet struct {
	head  api.Head
	bytes []byte
}

// Load is the book on a disk, and its pages.
func Load(p *pool.Pool) (api.Book, []uint32, api.Errno) {
	pages, sheets, e := chain(p)
	if e != api.OK {
		return api.Book{}, nil, e
	}
	var w []byte
	for _, s := range sheets {
		if !s.may() {
			return api.Book{}, nil, api.ErrForm
		}
		w = append(w, s.bytes[:s.head.Count]...)
	}
	b, e := Get(w)
	if e != api.OK {
		return api.Book{}, nil, e
	}
	return b, pages, api.OK
}

// chain is a book's pages, from page 0 on. An error of a page comes ahead of how the pages ahead of it look.
func chain(p *pool.Pool) ([]uint32, []sheet, api.Errno) {
	var pages []uint32
	var sheets []sheet
	for page := uint32(0); ; {
		h, b, e := p.Head(page, api.BookPage)
		if e != api.OK {
			return nil, nil, e
		}
		if len(pages) == p.Pages() {
			return nil, nil, api.ErrForm
		}
		pages = append(pages, page)
		sheets = append(sheets, sheet{head: h, bytes: b[api.HeadSize:]})
		if h.Next == 0 {
			return pages, sheets, api.OK
		}
		page = h.Next
	}
}

// may tells whether a page of a book is as it must be: full, if another one follows, and bytes 0 behind what is written.
func (s sheet) may() bool {
	if s.head.Count > body || s.head.Next != 0 && s.head.Count < body {
		return false
	}
	return !slices.ContainsFunc(s.bytes[s.head.Count:], func(x byte) bool { return x != 0 })
}
