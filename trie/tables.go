// Package trie: the routes of both families as tries in one arena. What is handed in has been checked by the caller.
package trie

import (
	"byway/api"
	"byway/arena"
)

// Tables is a table for each family.
type Tables struct {
	arena *arena.Arena
}

// New makes empty tables in an arena of so many words.
func New(words int) *Tables {
	return &Tables{arena: arena.New(words, fixedWords)}
}

// Free tells how many words of the arena are not used.
func (t *Tables) Free() int { return t.arena.Free() }

// AddressBytes tells how many bytes the addresses of a family have: 0 if the family is none.
func AddressBytes(family int) int {
	switch family {
	case api.Four:
		return 4
	case api.Six:
		return 16
	}
	return 0
}

// Lookup finds the hop of the longest prefix that fits, and tells how often it read the arena.
func (t *Tables) Lookup(family int, address string) (hop, reads int, found bool) {
	k := keyOf(address)
	r := t.arena.Reader()
	f := readFirst(&r, base(family)+int(k[0]))
	best := 0
	if length := f.longest(); length >= 0 {
		best = shortPlace(family, length, k[0])
	}
	for at, depth := f.node, 0; at != 0; depth++ {
		n, four := readNode(&r, at), k.four(depth)
		if number := n.longest(four); number >= 0 {
			best = n.hopPlace(number)
		}
		at = 0
		if n.hasWay(four) {
			at = n.childPlace(four)
		}
	}
	if best == 0 {
		return 0, r.Count(), false
	}
	var w arena.Word
	r.Read(best, &w)
	return int(w), r.Count(), true
}

func (t *Tables) node(at int) node {
	r := t.arena.Reader()
	return readNode(&r, at)
}
