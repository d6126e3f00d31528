package btree

import (
	"cmp"
	"slices"

	"rowlock/api"
	"rowlock/disk"
	"rowlock/leaf"
	"rowlock/pool"
)

// step is a page on the way down, and the number of its child on that way.
type step struct {
	node
	page  uint32
	child int
}

// Insert puts an entry into a tree.
func Insert(d *disk.Disk, root uint32, x api.Entry) (uint32, api.Errno) {
	if len(x.Key) > api.MaxKey {
		return 0, api.ErrArg
	}
	way, e := descend(d, root, x)
	if e != api.OK {
		return 0, e
	}
	last := &way[len(way)-1]
	at, there := slices.BinarySearchFunc(last.entries, x, leaf.Compare)
	if there {
		return 0, api.ErrSame
	}
	last.entries = slices.Insert(last.entries, at, x)
	c := &change{disk: d}
	next, e := c.settle(way, root)
	if e == api.ErrArg {
		return anew(d, root, x)
	}
	if e != api.OK {
		return 0, e
	}
	c.write()
	return next, api.OK
}

// anew builds a tree of all entries and one more. That is needed only where an inner page's separators reach beyond those of the page above, and so can't go up when it is split.
func anew(d *disk.Disk, root uint32, x api.Entry) (uint32, api.Errno) {
	p, e := pool.New(d, 1)
	if e != api.OK {
		return 0, e
	}
	l, e := Range(p, root, "", "", false, false)
	if e != api.OK {
		return 0, e
	}
	at, _ := slices.BinarySearchFunc(l, x, leaf.Compare)
	return Build(d, slices.Insert(l, at, x))
}

// descend is the way from the root to the leaf where an entry belongs.
func descend(d *disk.Disk, root uint32, x api.Entry) ([]step, api.Errno) {
	var way []step
	for page := root; ; {
		b, e := d.Read(page)
		if e != api.OK {
			return nil, e
		}
		n, e := open(b)
		if e != api.OK {
			return nil, e
		}
		if len(way) == api.MaxHigh {
			return nil, api.ErrForm
		}
		s := step{node: n, page: page, child: leaf.Child(n.entries, x)}
		way = append(way, s)
		if n.leaf {
			return way, api.OK
		}
		page = n.children[s.child]
	}
}

// change is pages that are to be written: none is, till all that are needed could be taken.
type change struct {
	disk  *disk.Disk
	pages []uint32
	bytes [][]byte
}

// settle puts the pages of a way, the last of which has an entry more, from the bottom up, as far as they are split: the root.
func (c *change) settle(way []step, root uint32) (uint32, api.Errno) {
	for i := len(way) - 1; i >= 0; i-- {
		s := &way[i]
		if s.fits() {
			return root, c.put(s.page, s.node)
		}
		up, right := s.split()
		page, e := c.disk.Take()
		if e != api.OK {
			return 0, e
		}
		if s.leaf {
			s.next = page
		}
		if e := cmp.Or(c.put(s.page, s.node), c.put(page, right)); e != api.OK {
			return 0, e
		}
		if i > 0 {
			above := &way[i-1]
			above.entries = slices.Insert(above.entries, above.child, up)
			above.children = slices.Insert(above.children, above.child+1, page)
			continue
		}
		if len(way) == api.MaxHigh {
			return 0, api.ErrFull
		}
		if root, e = c.disk.Take(); e != api.OK {
			return 0, e
		}
		return root, c.put(root, node{children: []uint32{s.page, page}, entries: []api.Entry{up}})
	}
	return root, api.OK
}

func (n *node) fits() bool {
	if n.leaf {
		return leaf.LeafSize(n.entries) <= api.PageSize
	}
	return leaf.InnerSize(n.entries) <= api.PageSize
}

// split leaves the left part, and is the separator that goes up, and the right part.
func (n *node) split() (api.Entry, node) {
	if n.leaf {
		at := cut(n.entries, 0, entrySize)
		right := node{leaf: true, next: n.next, entries: n.entries[at:]}
		n.entries = n.entries[:at]
		return right.entries[0], right
	}
	at := cut(n.entries, 1, separatorSize)
	up := n.entries[at]
	right := node{children: n.children[at+1:], entries: n.entries[at+1:]}
	n.children, n.entries = n.children[:at+1], n.entries[:at]
	return up, right
}

// put notes what is to be written.
func (c *change) put(page uint32, n node) api.Errno {
	var b []byte
	var e api.Errno
	if n.leaf {
		b, e = leaf.PutLeaf(n.next, n.entries)
	} else {
		b, e = leaf.PutInner(n.children, n.entries)
	}
	c.pages = append(c.pages, page)
	c.bytes = append(c.bytes, b)
	return e
}

func (c *change) write() {
	for i, page := range c.pages {
		c.disk.Write(page, c.bytes[i])
	}
}
