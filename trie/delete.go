package trie

import "byway/arena"

// Delete takes a route out of a family's table. It answers false if there is none with that prefix.
func (t *Tables) Delete(family int, bits string, length int) bool {
	p := prefix{keyOf(bits), length}
	if p.short() {
		return t.deleteShort(family, p)
	}
	f, at := t.first(family, p.key[0])
	if f.node == 0 {
		return false
	}
	found, empty := t.remove(f.node, 0, p)
	if empty {
		t.arena.Give(arena.Block{At: f.node, Size: nodeWords})
		f.node = 0
		writeFirst(t.arena, at, f)
	}
	return found
}

// remove takes a route out of a node or out of those below it. Nodes that are left empty go with it, but for the first, which its owner must drop.
func (t *Tables) remove(at, depth int, p prefix) (found, empty bool) {
	n := t.node(at)
	if depth == p.depth() {
		if !n.hasRoute(p.number()) {
			return false, false
		}
		n = t.dropHop(n, p.number())
	} else {
		four := p.key.four(depth)
		if !n.hasWay(four) {
			return false, false
		}
		found, empty = t.remove(n.childPlace(four), depth+1, p)
		if !empty {
			return found, false
		}
		n = t.dropChild(n, four)
	}
	writeNode(t.arena, at, n)
	return true, n.empty()
}

func (t *Tables) dropHop(n node, number int) node {
	n.hops = t.arena.Shrink(n.hopBlock(), before(n.routes, number), 1).At
	n.routes &^= 1 << number
	return n
}

func (t *Tables) dropChild(n node, four int) node {
	n.children = t.arena.Shrink(n.childBlock(), nodeWords*before(n.ways, four), nodeWords).At
	n.ways &^= 1 << four
	return n
}
