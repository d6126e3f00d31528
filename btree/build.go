package btree

import (
	"slices"

	"rowlock/api"
	"rowlock/disk"
	"rowlock/leaf"
)

// body is how many bytes of a page stand behind its head.
const body = api.PageSize - api.HeadSize

// child is a page of a tree, and its least entry.
type child struct {
	page  uint32
	least api.Entry
}

// entrySize is how many bytes an entry uses in a leaf.
func entrySize(x api.Entry) int {
	return leaf.LeafSize([]api.Entry{x}) - leaf.LeafSize(nil)
}

// separatorSize is how many bytes an entry uses in an inner page, with its child.
func separatorSize(x api.Entry) int {
	return leaf.InnerSize([]api.Entry{x}) - leaf.InnerSize(nil)
}

// childSize is how many bytes a child uses in an inner page: the first one has no separator.
func childSize(c child, first bool) int {
	if first {
		return leaf.InnerSize(nil) - leaf.LeafSize(nil)
	}
	return separatorSize(c.least)
}

// part makes groups of a list, one behind the other, each as great as there is room. If the last one has a single member, it gets one of the group ahead: an inner page needs two.
func part[T any](l []T, room int, size func(x T, first bool) int) [][]T {
	var groups [][]T
	begin, used := 0, 0
	for i, x := range l {
		if used+size(x, i == begin) > room {
			groups = append(groups, l[begin:i])
			begin, used = i, 0
		}
		used += size(x, i == begin)
	}
	if len(groups) > 0 && begin == len(l)-1 {
		last := len(groups) - 1
		begin--
		groups[last] = groups[last][:len(groups[last])-1]
	}
	return append(groups, l[begin:])
}

// cut is where a list is best cut in two, without so many in the middle: so that the greater part is least.
func cut[T any](l []T, without int, size func(x T) int) int {
	behind := 0
	for _, x := range l {
		behind += size(x)
	}
	ahead, best, least := 0, 0, behind+1
	for i := range len(l) - without {
		rest := behind - ahead
		for _, x := range l[i : i+without] {
			rest -= size(x)
		}
		if i > 0 && max(ahead, rest) < least {
			best, least = i, max(ahead, rest)
		}
		ahead += size(l[i])
	}
	return best
}

// Build makes a tree.
func Build(d *disk.Disk, l []api.Entry) (uint32, api.Errno) {
	if !leaf.Rise(l) || slices.ContainsFunc(l, func(x api.Entry) bool { return len(x.Key) > api.MaxKey }) {
		return 0, api.ErrArg
	}
	level, e := buildLeaves(d, l)
	for e == api.OK && len(level) > 1 {
		level, e = buildInner(d, level)
	}
	if e != api.OK {
		return 0, e
	}
	return level[0].page, api.OK
}

func buildLeaves(d *disk.Disk, l []api.Entry) ([]child, api.Errno) {
	groups := part(l, body, func(x api.Entry, _ bool) int { return entrySize(x) })
	pages, e := take(d, len(groups))
	if e != api.OK {
		return nil, e
	}
	var level []child
	for i, g := range groups {
		var next uint32
		if i+1 < len(pages) {
			next = pages[i+1]
		}
		c := child{page: pages[i]}
		if len(g) > 0 {
			c.least = g[0]
		}
		b, e := leaf.PutLeaf(next, g)
		if e != api.OK {
			return nil, e
		}
		d.Write(c.page, b)
		level = append(level, c)
	}
	return level, api.OK
}

// buildInner makes the pages above those of a level.
func buildInner(d *disk.Disk, below []child) ([]child, api.Errno) {
	groups := part(below, body, childSize)
	pages, e := take(d, len(groups))
	if e != api.OK {
		return nil, e
	}
	var level []child
	for i, g := range groups {
		var children []uint32
		var separators []api.Entry
		for k, c := range g {
			children = append(children, c.page)
			if k > 0 {
				separators = append(separators, c.least)
			}
		}
		b, e := leaf.PutInner(children, separators)
		if e != api.OK {
			return nil, e
		}
		d.Write(pages[i], b)
		level = append(level, child{page: pages[i], least: g[0].least})
	}
	return level, api.OK
}

// take takes so many pages, one by one.
func take(d *disk.Disk, count int) ([]uint32, api.Errno) {
	var pages []uint32
	for range count {
		page, e := d.Take()
		if e != api.OK {
			return nil, e
		}
		pages = append(pages, page)
	}
	return pages, api.OK
}
