package cursor

import (
	"rubricator/api"
	"rubricator/branch"
	"rubricator/leaf"
	"rubricator/node"
)

// way is the pages from the root down to where a cursor stands.
type way []step

// step is one of them.
type step struct {
	node node.Node
	may  node.Span // which keys may be in its tree
	at   int       // the place of the kid by which the way goes on, or of the key
}

// course is how to go.
type course struct {
	by    int                   // from a place to the next one
	first func(n node.Node) int // at which place of a page to begin
}

// forth goes to rising keys, from the first one on that isn't ahead of a key.
func forth(key []byte) course {
	return course{by: 1, first: func(n node.Node) int {
		if n.IsLeaf() {
			i, _ := leaf.Find(n.Entries, key)
			return i
		}
		return branch.Find(n.Kids, key)
	}}
}

// back goes to falling keys, from the last one on.
func back() course {
	return course{by: -1, first: func(n node.Node) int { return n.Many() - 1 }}
}

// end is its last page.
func (w way) end() *step { return &w[len(w)-1] }

// entry is the one to which it leads.
func (w way) entry() leaf.Entry { return w.end().node.Entries[w.end().at] }

// isIn tells whether the place is one of the page's.
func (x step) isIn() bool { return x.at >= 0 && x.at < x.node.Many() }

// kid is the page by which the way goes on.
func (x step) kid() api.Page { return x.node.Kids[x.at].Child }

// mayBelow is which keys may be in that page's tree.
func (x step) mayBelow() node.Span { return x.may.Of(x.node.Kids, x.at) }

// start goes from the root to the first key on a course.
func (c *Cursor) start(to course) bool { return c.enterRoot(to) && c.settle(to) }

// goOn goes to the next key on a course; from nowhere to the first one.
func (c *Cursor) goOn(to course) bool {
	if !c.stands() {
		return c.start(to)
	}
	c.way.end().at += to.by
	return c.settle(to)
}

// enterRoot begins a new way; false: there is none.
func (c *Cursor) enterRoot(to course) bool {
	if c == nil {
		return false
	}
	c.way = nil
	return c.err == api.OK && c.root != none && c.enter(c.root, node.Span{}, to)
}

// enter lets the way go on to a page.
func (c *Cursor) enter(p api.Page, may node.Span, to course) bool {
	if len(c.way) == api.MaxDeep {
		c.fail(api.ErrCorrupt)
		return false
	}
	n, e := node.Read(c.source, p, may)
	if e != api.OK {
		c.fail(e)
		return false
	}
	c.way = append(c.way, step{node: n, may: may, at: to.first(n)})
	return true
}

// settle goes on until it stands at a key; false: there is none on this course.
func (c *Cursor) settle(to course) bool {
	for c.down(to) {
		if c.way.end().isIn() {
			return true
		}
		c.leave(to)
	}
	return false
}

// down goes on to the next leaf on a course; false: there is none.
func (c *Cursor) down(to course) bool {
pages:
	for len(c.way) > 0 {
		x := c.way.end()
		switch {
		case x.node.IsLeaf():
			break pages
		case !x.isIn():
			c.leave(to)
		case x.mayBelow().IsEmpty():
			// No key may be there; and of pages that lead to the same few ones again and again there would be no end.
			x.at += to.by
		default:
			c.enter(x.kid(), x.mayBelow(), to)
		}
	}
	return len(c.way) > 0
}

// leave goes from a page back up, and to the next kid there.
func (c *Cursor) leave(to course) {
	c.way = c.way[:len(c.way)-1]
	if len(c.way) > 0 {
		c.way.end().at += to.by
	}
}
