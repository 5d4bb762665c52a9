package tree

import (
	"bytes"
	"slices"

	"wainscot/api"
	"wainscot/node"
	"wainscot/pager"
)

const (
	// room is how many bytes of a page a node may have.
	room = api.PageSize - 4
	// enough is up to how many bytes two nodes are made one: not all of the room, or the next key would part them again.
	enough = 400
)

// Put gives a key its value.
func Put(p *pager.Pager, root int, key, value []byte) api.Errno {
	if _, _, e := Get(p, root, key); e != api.OK {
		return e
	}
	if len(key) == 0 || len(key) > api.MaxKey {
		return api.ErrArg
	}
	if len(key)+len(value) > api.MaxCell {
		return api.ErrLarge
	}
	return change(p, root, key, func(n *node.Node) bool { return putCell(n, key, value) })
}

// Delete takes a key out, and tells whether it was there.
func Delete(p *pager.Pager, root int, key []byte) (bool, api.Errno) {
	gone := false
	e := change(p, root, key, func(n *node.Node) bool {
		gone = deleteCell(n, key)
		return gone
	})
	return gone && e == api.OK, e
}

// putCell and deleteCell change a leaf, and tell whether there was something to change.
func putCell(n *node.Node, key, value []byte) bool {
	i, found := node.Find(*n, key)
	if found && bytes.Equal(n.Values[i], value) {
		return false
	}
	if found {
		n.Values[i] = value
		return true
	}
	n.Keys, n.Values = slices.Insert(n.Keys, i, key), slices.Insert(n.Values, i, value)
	return true
}

func deleteCell(n *node.Node, key []byte) bool {
	i, found := node.Find(*n, key)
	if found {
		n.Keys, n.Values = slices.Delete(n.Keys, i, i+1), slices.Delete(n.Values, i, i+1)
	}
	return found
}

// change lets edit change the leaf in which a key lies, or would lie.
func change(p *pager.Pager, root int, key []byte, edit func(n *node.Node) bool) api.Errno {
	c := changer{newWalker(p), key, edit}
	r, e := c.change(root)
	if e != api.OK || !r.changed {
		return e
	}
	return c.setRoot(root, r.n)
}

// changer goes down to a leaf, and on the way up makes good what the change has made too large or too small.
type changer struct {
	*walker
	key  []byte
	edit func(n *node.Node) bool
}

// changed is a node that isn't written yet, but for its kids.
type changed struct {
	n       node.Node
	changed bool
	shrunk  bool
}

func (c *changer) change(page int) (changed, api.Errno) {
	n, e := c.load(page)
	if e != api.OK {
		return changed{}, e
	}
	size := node.Size(n)
	r := changed{}
	if n.Leaf {
		r.changed = c.edit(&n)
	} else {
		i := kidOf(n, c.key)
		kid, e := c.change(n.Kids[i])
		if e != api.OK || !kid.changed {
			return changed{}, e
		}
		keys := slices.Clone(n.Keys)
		if e := c.place(&n, i, kid); e != api.OK {
			return changed{}, e
		}
		r.changed = !slices.EqualFunc(keys, n.Keys, bytes.Equal)
	}
	r.n, r.shrunk = n, node.Size(n) < size
	return r, api.OK
}

// place writes the changed kid i of n: as two, if it is too large, or as one with those beside it, if it has shrunk.
func (c *changer) place(n *node.Node, i int, kid changed) api.Errno {
	if node.Size(kid.n) > room {
		left, separator, right := split(kid.n)
		page, e := c.p.Take()
		if e != api.OK {
			return e
		}
		n.Keys, n.Kids = slices.Insert(n.Keys, i, separator), slices.Insert(n.Kids, i+1, page)
		return c.storeTwo(n.Kids[i], left, page, right)
	}
	for kid.shrunk && len(n.Keys) > 0 {
		joined, e := c.join(n, &i, &kid.n)
		if e != api.OK {
			return e
		}
		if !joined {
			break
		}
	}
	if poor(kid.n) && len(n.Keys) > 0 {
		return c.share(n, i, kid.n)
	}
	return store(c.p, n.Kids[i], kid.n)
}

func (c *changer) storeTwo(page int, n node.Node, other int, m node.Node) api.Errno {
	if e := store(c.p, page, n); e != api.OK {
		return e
	}
	return store(c.p, other, m)
}

// poor tells whether a node has too little to stay: only a root may be a leaf without cells, and none has one kid.
func poor(n node.Node) bool { return len(n.Keys) == 0 }

// join makes the kid i, whose node is kid, and one beside it one, if they aren't too much for that.
func (c *changer) join(n *node.Node, i *int, kid *node.Node) (bool, api.Errno) {
	most := enough
	if poor(*kid) {
		most = room
	}
	for _, at := range []int{*i - 1, *i} {
		if at < 0 || at >= len(n.Keys) {
			continue
		}
		other, e := c.sibling(n.Kids[2*at+1-*i], *kid)
		if e != api.OK {
			return false, e
		}
		left, right := *kid, other
		if at < *i {
			left, right = other, *kid
		}
		one := joined(left, n.Keys[at], right)
		if node.Size(one) > most {
			continue
		}
		if e := c.p.Give(n.Kids[at+1]); e != api.OK {
			return false, e
		}
		n.Keys, n.Kids = slices.Delete(n.Keys, at, at+1), slices.Delete(n.Kids, at+1, at+2)
		*i, *kid = at, one
		return true, api.OK
	}
	return false, api.OK
}

// sibling loads the node beside a kid. It may be asked for twice, so that it isn't counted.
func (c *changer) sibling(page int, kid node.Node) (node.Node, api.Errno) {
	n, e := newWalker(c.p).load(page)
	if e == api.OK && n.Leaf != kid.Leaf {
		return node.Node{}, api.ErrBad
	}
	return n, e
}

// share gives a poor kid a part of what the one beside it has.
func (c *changer) share(n *node.Node, i int, kid node.Node) api.Errno {
	at := max(0, i-1)
	other, e := c.sibling(n.Kids[2*at+1-i], kid)
	if e != api.OK {
		return e
	}
	left, right := kid, other
	if at < i {
		left, right = other, kid
	}
	left, separator, right := split(joined(left, n.Keys[at], right))
	n.Keys[at] = separator
	return c.storeTwo(n.Kids[at], left, n.Kids[at+1], right)
}

// joined is one node of two that stood side by side, parted by that key.
func joined(left node.Node, separator []byte, right node.Node) node.Node {
	if left.Leaf {
		return node.Node{Leaf: true, Keys: slices.Concat(left.Keys, right.Keys), Values: slices.Concat(left.Values, right.Values)}
	}
	return node.Node{Keys: slices.Concat(left.Keys, [][]byte{separator}, right.Keys), Kids: slices.Concat(left.Kids, right.Kids)}
}

// split parts a node into two of about one size, and answers the key that parts them.
func split(n node.Node) (node.Node, []byte, node.Node) {
	size := node.Size(n)
	i := 1
	for i < len(n.Keys)-1 && 2*node.Size(head(n, i)) < size {
		i++
	}
	if n.Leaf {
		left, right := head(n, i), node.Node{Leaf: true, Keys: n.Keys[i:], Values: n.Values[i:]}
		return left, separator(n.Keys[i-1], n.Keys[i]), right
	}
	// An inner node's own key parts its parts; the left one has a kid more than keys.
	i = min(i, len(n.Keys)-2)
	return head(n, i), n.Keys[i], node.Node{Keys: n.Keys[i+1:], Kids: n.Kids[i+1:]}
}

// head is a node of the first i keys.
func head(n node.Node, i int) node.Node {
	if n.Leaf {
		return node.Node{Leaf: true, Keys: n.Keys[:i], Values: n.Values[:i]}
	}
	return node.Node{Keys: n.Keys[:i], Kids: n.Kids[:i+1]}
}

// separator is the shortest key above below that isn't above from.
func separator(below, from []byte) []byte {
	for i := range from {
		if i == len(below) || below[i] != from[i] {
			return slices.Clone(from[:i+1])
		}
	}
	return slices.Clone(from)
}

// setRoot writes the root, which keeps its page: what is too much for it gets kids of its own, and an only kid becomes it.
func (c *changer) setRoot(root int, n node.Node) api.Errno {
	if !n.Leaf && poor(n) {
		return c.raise(root, n.Kids[0])
	}
	if node.Size(n) <= room {
		return store(c.p, root, n)
	}
	left, key, right := split(n)
	kids := make([]int, 2)
	for i := range kids {
		page, e := c.p.Take()
		if e != api.OK {
			return e
		}
		kids[i] = page
	}
	if e := c.storeTwo(kids[0], left, kids[1], right); e != api.OK {
		return e
	}
	return store(c.p, root, node.Node{Keys: [][]byte{key}, Kids: kids})
}

// raise lets the root be what its only kid is.
func (c *changer) raise(root, kid int) api.Errno {
	n, e := newWalker(c.p).load(kid)
	if e != api.OK {
		return e
	}
	if e := c.p.Give(kid); e != api.OK {
		return e
	}
	return store(c.p, root, n)
}
