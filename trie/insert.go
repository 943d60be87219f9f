package trie

import (
	"byway/api"
	"byway/arena"
)

// Insert puts a route into a family's table. It answers false, and the routes stay as they are, if the arena has no room.
func (t *Tables) Insert(family int, route api.Route) bool {
	p := prefix{keyOf(route.Bits), route.Len}
	if p.short() {
		t.insertShort(family, p, route.Hop)
		return true
	}
	if t.need(family, p) > t.arena.Free() {
		return false
	}
	if t.put(family, p, route.Hop) {
		return true
	}
	// The free words are enough, only not in a row.
	t.Compact()
	return t.put(family, p, route.Hop)
}

// deepest finds the last node on the way to where a prefix ends: its place, 0 if there is no node on the way, and its depth.
func (t *Tables) deepest(family int, p prefix) (at, depth int) {
	f, _ := t.first(family, p.key[0])
	if f.node == 0 {
		return 0, -1
	}
	at = f.node
	for depth < p.depth() {
		n, four := t.node(at), p.key.four(depth)
		if !n.hasWay(four) {
			break
		}
		at = n.childPlace(four)
		depth++
	}
	return at, depth
}

// need tells how many words the new blocks for a prefix have.
func (t *Tables) need(family int, p prefix) int {
	at, depth := t.deepest(family, p)
	missing := p.depth() - depth
	if at == 0 {
		return missing*nodeWords + 1
	}
	n := t.node(at)
	if missing > 0 {
		return n.childBlock().Size + missing*nodeWords + 1
	}
	if n.hasRoute(p.number()) {
		return 0
	}
	return n.hopBlock().Size + 1
}

// put tries once. If it fails, no route has changed, but there may be blocks that nothing leads to: the caller must compact.
func (t *Tables) put(family int, p prefix, hop int) bool {
	at, depth := t.deepest(family, p)
	if depth == p.depth() {
		return t.putHop(at, p.number(), hop)
	}
	child, ok := t.chain(p, depth+1, hop)
	if !ok {
		return false
	}
	if at == 0 {
		return t.putFirst(family, p.key[0], child)
	}
	return t.putChild(at, p.key.four(depth), child)
}

func (t *Tables) putHop(at, number, hop int) bool {
	n := t.node(at)
	if !n.hasRoute(number) {
		b, ok := t.arena.Grow(n.hopBlock(), before(n.routes, number), 1)
		if !ok {
			return false
		}
		n.hops = b.At
		n.routes |= 1 << number
		writeNode(t.arena, at, n)
	}
	t.arena.Write(n.hopPlace(number), arena.Word(hop))
	return true
}

// chain makes the nodes from a depth on down to where a prefix ends, and answers the first of them. Nothing leads to them yet.
func (t *Tables) chain(p prefix, depth, hop int) (node, bool) {
	b, ok := t.arena.Take(1)
	if !ok {
		return node{}, false
	}
	t.arena.Write(b.At, arena.Word(hop))
	n := node{routes: 1 << p.number(), hops: b.At}
	for d := p.depth() - 1; d >= depth; d-- {
		b, ok = t.arena.Take(nodeWords)
		if !ok {
			return node{}, false
		}
		writeNode(t.arena, b.At, n)
		n = node{ways: 1 << p.key.four(d), children: b.At}
	}
	return n, true
}

func (t *Tables) putFirst(family int, firstByte byte, n node) bool {
	b, ok := t.arena.Take(nodeWords)
	if !ok {
		return false
	}
	writeNode(t.arena, b.At, n)
	f, at := t.first(family, firstByte)
	f.node = b.At
	writeFirst(t.arena, at, f)
	return true
}

func (t *Tables) putChild(at, four int, child node) bool {
	n := t.node(at)
	b, ok := t.arena.Grow(n.childBlock(), nodeWords*before(n.ways, four), nodeWords)
	if !ok {
		return false
	}
	n.children = b.At
	n.ways |= 1 << four
	writeNode(t.arena, at, n)
	writeNode(t.arena, n.childPlace(four), child)
	return true
}
