package trie

import (
	"math/bits"

	"byway/arena"
)

// node stands for four bits of addresses. Its hops lie in a row, by the numbers of their prefixes; so do its children, by their ways.
type node struct {
	routes   uint16 // which prefixes of 0 to 3 further bits are there
	ways     uint16 // by which four bits it goes on
	hops     int
	children int
}

const nodeWords = 2

func readNode(r *arena.Reader, at int) node {
	var maps, places arena.Word
	r.Read(at, &maps, &places)
	return node{
		routes:   uint16(maps),
		ways:     uint16(maps >> 16),
		hops:     int(places & 0xffff),
		children: int(places >> 16),
	}
}

func writeNode(a *arena.Arena, at int, n node) {
	maps := arena.Word(n.routes) | arena.Word(n.ways)<<16
	places := arena.Word(n.hops) | arena.Word(n.children)<<16
	a.Write(at, maps, places)
}

func (n node) empty() bool { return n.routes == 0 && n.ways == 0 }

func (n node) hasRoute(number int) bool { return n.routes>>number&1 == 1 }

func (n node) hasWay(four int) bool { return n.ways>>four&1 == 1 }

func (n node) hopPlace(number int) int { return n.hops + before(n.routes, number) }

func (n node) childPlace(four int) int { return n.children + nodeWords*before(n.ways, four) }

func (n node) hopBlock() arena.Block {
	return arena.Block{At: n.hops, Size: bits.OnesCount16(n.routes)}
}

func (n node) childBlock() arena.Block {
	return arena.Block{At: n.children, Size: nodeWords * bits.OnesCount16(n.ways)}
}

// longest is the number of the longest of the node's prefixes that fit these four bits, or -1.
func (n node) longest(four int) int {
	var fitting uint16
	for further := range stepBits {
		fitting |= 1 << numberOf(further, four>>(stepBits-further))
	}
	return bits.Len16(n.routes&fitting) - 1
}

// before counts the bits that are set below one.
func before(bitmap uint16, bit int) int {
	return bits.OnesCount16(bitmap & (1<<bit - 1))
}
