package trie

import (
	"math/bits"

	"byway/api"
	"byway/arena"
)

// dump is a walk through the table of a family.
type dump struct {
	reader arena.Reader
	family int
	routes []api.Route
}

// Dump tells all routes of a family, in the order of their bytes, those of the same bytes by rising lengths.
func (t *Tables) Dump(family int) []api.Route {
	d := dump{reader: t.arena.Reader(), family: family}
	inOrder(firstBits, d.short, d.first)
	return d.routes
}

// inOrder goes through all values of so many bits; ahead of each through the prefixes of fewer bits that begin there: those that leave out nothing but zeros.
func inOrder(count int, begin func(length, value int), each func(value int)) {
	for value := range 1 << count {
		zeros := min(bits.TrailingZeros(uint(value)), count)
		for rest := zeros; rest > 0; rest-- {
			begin(count-rest, value>>rest)
		}
		each(value)
	}
}

func (d *dump) short(length, value int) {
	firstByte := byte(value << (firstBits - length))
	f := readFirst(&d.reader, base(d.family)+int(firstByte))
	if f.hasShort(length) {
		d.tell(prefix{key{firstByte}, length}, shortPlace(d.family, length, firstByte))
	}
}

func (d *dump) first(value int) {
	f := readFirst(&d.reader, base(d.family)+value)
	if f.node != 0 {
		d.node(f.node, 0, key{byte(value)})
	}
}

// node walks through a node and all below it; k is the bits ahead of it.
func (d *dump) node(at, depth int, k key) {
	n := readNode(&d.reader, at)
	begin := func(further, value int) {
		number := numberOf(further, value)
		if n.hasRoute(number) {
			p := prefix{k.with(depth, value<<(stepBits-further)), firstBits + depth*stepBits + further}
			d.tell(p, n.hopPlace(number))
		}
	}
	each := func(four int) {
		if n.hasWay(four) {
			d.node(n.childPlace(four), depth+1, k.with(depth, four))
		}
	}
	inOrder(stepBits, begin, each)
}

func (d *dump) tell(p prefix, hopPlace int) {
	var hop arena.Word
	d.reader.Read(hopPlace, &hop)
	d.routes = append(d.routes, api.Route{
		Bits: string(p.key[:AddressBytes(d.family)]),
		Len:  p.length,
		Hop:  int(hop),
	})
}
