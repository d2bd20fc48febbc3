// Package trie is layer 2: see shared/doc/02-trie.md.
package trie

import (
	"carrefour/api"
	"carrefour/ip"
)

// room is how many prefixes a Trie has room for at the very most.
const room = api.MaxPeers * api.MaxRoutes

// Trie is values at prefixes.
type Trie[T any] struct {
	root  *node[T]
	most  int
	count int
}

// node is a prefix, as many bits below the root as its Len. One at which nothing stands is there only as long as it has kids.
type node[T any] struct {
	kids [2]*node[T]
	val  T
	has  bool
}

// New is an empty one, for so many prefixes at most.
func New[T any](most int) *Trie[T] {
	return &Trie[T]{most: min(max(most, 0), room)}
}

// find is the node of a prefix at which something stands.
func (t *Trie[T]) find(p ip.Prefix) *node[T] {
	if n := t.under(p); n != nil && n.has {
		return n
	}
	return nil
}

// under is the node of a prefix, if there is one.
func (t *Trie[T]) under(p ip.Prefix) *node[T] {
	if t == nil || p.Check() != api.OK {
		return nil
	}
	n := t.root
	for i := 0; i < p.Len && n != nil; i++ {
		n = n.kids[p.Addr.Bit(i)]
	}
	return n
}

// Put lets a value stand at a prefix, in the place of what stood there.
func (t *Trie[T]) Put(p ip.Prefix, val T) api.Errno {
	if t == nil || p.Check() != api.OK {
		return api.ErrArg
	}
	if n := t.find(p); n != nil {
		n.val = val
		return api.OK
	}
	if t.count >= t.most {
		return api.ErrMany
	}
	n := t.grow(p)
	n.val, n.has = val, true
	t.count++
	return api.OK
}

// grow is the node of a prefix, made with all above it that isn't there.
func (t *Trie[T]) grow(p ip.Prefix) *node[T] {
	link := &t.root
	for i := 0; ; i++ {
		if *link == nil {
			*link = new(node[T])
		}
		if i == p.Len {
			return *link
		}
		link = &(*link).kids[p.Addr.Bit(i)]
	}
}

// Drop takes what stands at a prefix away.
func (t *Trie[T]) Drop(p ip.Prefix) bool {
	if t.find(p) == nil {
		return false
	}
	t.root = t.root.without(p, 0)
	t.count--
	return true
}

// without is what is left of a node, so many bits below the root, when what stands at a prefix is taken away: nil, if that is nothing.
func (n *node[T]) without(p ip.Prefix, depth int) *node[T] {
	if depth == p.Len {
		*n = node[T]{kids: n.kids}
	} else {
		turn := p.Addr.Bit(depth)
		n.kids[turn] = n.kids[turn].without(p, depth+1)
	}
	if !n.has && n.kids[0] == nil && n.kids[1] == nil {
		return nil
	}
	return n
}

// Get is what stands at a prefix.
func (t *Trie[T]) Get(p ip.Prefix) (T, bool) {
	if n := t.find(p); n != nil {
		return n.val, true
	}
	var none T
	return none, false
}

// Longest is the longest prefix that an address lies in and at which something stands.
func (t *Trie[T]) Longest(a ip.Addr) (ip.Prefix, T, bool) {
	var none T
	if t == nil {
		return ip.Prefix{}, none, false
	}
	var best *node[T]
	size := 0
	for n, depth := t.root, 0; n != nil; depth++ {
		if n.has {
			best, size = n, depth
		}
		n = n.kids[a.Bit(depth)]
	}
	if best == nil {
		return ip.Prefix{}, none, false
	}
	return ip.Of(a, size), best.val, true
}

// All goes through all prefixes, in order.
func (t *Trie[T]) All(each func(p ip.Prefix, val T) bool) {
	t.Below(ip.Prefix{}, each)
}

// Below goes through all prefixes that a prefix covers, in order.
func (t *Trie[T]) Below(p ip.Prefix, each func(p ip.Prefix, val T) bool) {
	if each != nil {
		t.under(p).walk(p, each)
	}
}

// walk goes through a node at a prefix, and all below it; whether it is to go on. A prefix comes ahead of its halves, as that is their order.
func (n *node[T]) walk(p ip.Prefix, each func(p ip.Prefix, val T) bool) bool {
	if n == nil {
		return true
	}
	if n.has && !each(p, n.val) {
		return false
	}
	for turn, kid := range n.kids {
		half, _ := p.Half(turn) // none, where there are no kids
		if !kid.walk(half, each) {
			return false
		}
	}
	return true
}

// Len is at how many prefixes something stands.
func (t *Trie[T]) Len() int {
	if t == nil {
		return 0
	}
	return t.count
}
