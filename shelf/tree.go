package shelf

import "cmp"

// node is a pair, with all pairs of lesser keys on its left and all of greater
// keys on its right. The heights of its two sides differ by 1 at most, so that
// every way down is short; nil is the tree without pairs.
//
// Nobody writes to a node or to its pair: what changes a tree makes the nodes on
// the way to the change anew, and leans on all else. So a shelf stays as it was,
// and making another one of it takes few steps, however many pairs there are and
// however great their values.
type node[K cmp.Ordered, V any] struct {
	pair   *Pair[K, V]
	left   *node[K, V]
	right  *node[K, V]
	height int
}

// planted is the tree of these pairs, which rise.
func planted[K cmp.Ordered, V any](pairs []*Pair[K, V]) *node[K, V] {
	if len(pairs) == 0 {
		return nil
	}
	middle := len(pairs) / 2
	return joined(planted(pairs[:middle]), pairs[middle], planted(pairs[middle+1:]))
}

// joined is the tree of two sides and the pair between them.
func joined[K cmp.Ordered, V any](left *node[K, V], p *Pair[K, V], right *node[K, V]) *node[K, V] {
	return &node[K, V]{pair: p, left: left, right: right, height: 1 + max(left.high(), right.high())}
}

// levelled is joined of sides one of which came to be one too high, or too low.
func levelled[K cmp.Ordered, V any](left *node[K, V], p *Pair[K, V], right *node[K, V]) *node[K, V] {
	switch {
	case left.high() > right.high()+1:
		inner := left.right
		if inner.high() > left.left.high() {
			return joined(joined(left.left, left.pair, inner.left), inner.pair, joined(inner.right, p, right))
		}
		return joined(left.left, left.pair, joined(inner, p, right))
	case right.high() > left.high()+1:
		inner := right.left
		if inner.high() > right.right.high() {
			return joined(joined(left, p, inner.left), inner.pair, joined(inner.right, right.pair, right.right))
		}
		return joined(joined(left, p, inner), right.pair, right.right)
	}
	return joined(left, p, right)
}

func (n *node[K, V]) high() int {
	if n == nil {
		return 0
	}
	return n.height
}

// find is where k stands; nil: nowhere.
func (n *node[K, V]) find(k K) *node[K, V] {
	for n != nil {
		switch side := cmp.Compare(k, n.pair.Key); {
		case side < 0:
			n = n.left
		case side > 0:
			n = n.right
		default:
			return n
		}
	}
	return nil
}

// with is the tree with p, or with its value in place of that of its key.
func (n *node[K, V]) with(p *Pair[K, V]) *node[K, V] {
	if n == nil {
		return joined(nil, p, nil)
	}
	switch side := cmp.Compare(p.Key, n.pair.Key); {
	case side < 0:
		return levelled(n.left.with(p), n.pair, n.right)
	case side > 0:
		return levelled(n.left, n.pair, n.right.with(p))
	}
	// The value alone is another one: of 0 and -0, which are one key, that
	// stays which is there.
	return joined(n.left, &Pair[K, V]{Key: n.pair.Key, Val: p.Val}, n.right)
}

// without is the tree without k.
func (n *node[K, V]) without(k K) *node[K, V] {
	if n == nil {
		return nil
	}
	switch side := cmp.Compare(k, n.pair.Key); {
	case side < 0:
		return levelled(n.left.without(k), n.pair, n.right)
	case side > 0:
		return levelled(n.left, n.pair, n.right.without(k))
	}
	if n.right == nil {
		return n.left
	}
	next := n.right.first()
	return levelled(n.left, next, n.right.without(next.Key))
}

// first is the pair of the least key.
func (n *node[K, V]) first() *Pair[K, V] {
	for n.left != nil {
		n = n.left
	}
	return n.pair
}

// behind is these pairs, and those of the tree behind them.
func (n *node[K, V]) behind(pairs []*Pair[K, V]) []*Pair[K, V] {
	if n == nil {
		return pairs
	}
	return n.right.behind(append(n.left.behind(pairs), n.pair))
}
