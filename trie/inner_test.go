package trie

import (
	"testing"

	"carrefour/ip"
)

// count is how many nodes there are.
func (n *node[T]) count() int {
	if n == nil {
		return 0
	}
	return 1 + n.kids[0].count() + n.kids[1].count()
}

// TestDropKeepsNothing: of what is dropped no node stays that nothing needs.
func TestDropKeepsNothing(t *testing.T) {
	x := New[int](9)
	short, long, side := ip.Of(0x0a000000, 8), ip.Of(0x0a000000, 32), ip.Of(0x0a000001, 32)
	for i, p := range []ip.Prefix{short, long, side} {
		x.Put(p, i)
	}
	for _, c := range []struct {
		p    ip.Prefix
		left int
	}{{long, 33}, {short, 33}, {side, 0}} {
		if !x.Drop(c.p) || x.root.count() != c.left {
			t.Errorf("without %s: %d nodes", c.p.Text(), x.root.count())
		}
	}
	x.Put(short, 1)
	x.Put(long, 2)
	if x.Drop(long); x.root.count() != 9 {
		t.Errorf("without what is below: %d nodes", x.root.count())
	}
}
