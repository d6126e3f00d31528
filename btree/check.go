package btree

import (
	"rowlock/api"
	"rowlock/leaf"
	"rowlock/pool"
)

// Check looks at a tree.
func Check(p *pool.Pool, root uint32) ([]api.Entry, Shape, api.Errno) {
	if p == nil {
		return nil, Shape{}, api.ErrArg
	}
	c := &checker{pool: p, met: make([]bool, p.Pages())}
	e := c.page(root, 1, bounds{})
	if e == api.OK && c.next != 0 {
		e = api.ErrForm
	}
	if e != api.OK {
		return nil, Shape{}, e
	}
	c.shape.Entries = len(c.entries)
	return c.entries, c.shape, api.OK
}

// checker goes through a tree from the left, and stops where it is wrong first.
type checker struct {
	pool    *pool.Pool
	met     []bool // by page
	entries []api.Entry
	shape   Shape
	next    uint32 // where the last leaf by now leads to
}

// bounds are entries from one on, up to another one (not counted), if they end.
type bounds struct {
	lo, hi api.Entry
	ends   bool
}

// has tells whether all of some rising entries are in.
func (x bounds) has(l []api.Entry) bool {
	if len(l) == 0 {
		return true
	}
	return leaf.Compare(l[0], x.lo) >= 0 && (!x.ends || leaf.Compare(l[len(l)-1], x.hi) < 0)
}

// child are the bounds of what stands below a child: an inner page's separators may reach beyond those of the pages above it.
func (x bounds) child(separators []api.Entry, i int) bounds {
	if i > 0 && leaf.Compare(separators[i-1], x.lo) > 0 {
		x.lo = separators[i-1]
	}
	if i < len(separators) && (!x.ends || leaf.Compare(separators[i], x.hi) < 0) {
		x.hi, x.ends = separators[i], true
	}
	return x
}

func (c *checker) page(page uint32, deep int, in bounds) api.Errno {
	b, e := c.pool.Get(page)
	if e != api.OK {
		return e
	}
	if c.met[page] {
		return api.ErrForm
	}
	c.met[page] = true
	c.shape.Pages++
	n, e := open(b)
	if e != api.OK {
		return e
	}
	if n.leaf {
		return c.leaf(page, n, deep, in)
	}
	return c.inner(n, deep, in)
}

func (c *checker) leaf(page uint32, n node, deep int, in bounds) api.Errno {
	first := c.shape.Leaves == 0
	if first {
		c.shape.High = deep
	}
	if deep != c.shape.High || !first && c.next != page || !in.has(n.entries) {
		return api.ErrForm
	}
	c.shape.Leaves++
	c.entries = append(c.entries, n.entries...)
	c.next = n.next
	return api.OK
}

func (c *checker) inner(n node, deep int, in bounds) api.Errno {
	// What stands below is deeper than this: too deep, if the tree, or its first leaf, is as high.
	if deep == api.MaxHigh || deep == c.shape.High {
		return api.ErrForm
	}
	for i, page := range n.children {
		if e := c.page(page, deep+1, in.child(n.entries, i)); e != api.OK {
			return e
		}
	}
	return api.OK
}
