package trie

import (
	"math/bits"

	"byway/api"
	"byway/arena"
)

const (
	firstBits = 8 // bits that the root of a table takes at once
	stepBits  = 4 // bits that a node takes

	firsts      = 1 << firstBits
	familyWords = 2 * firsts // the words of the first bytes, then the hops of short prefixes
	fixedWords  = 2 * familyWords
)

// base is where the fixed words of a family begin.
func base(family int) int {
	if family == api.Six {
		return familyWords
	}
	return 0
}

// first is what is known of a first byte: where its node is, and of which lengths there are short prefixes that fit it. These stand with it so that a lookup needs no read to find the longest of them.
type first struct {
	node   int
	shorts uint8
}

func readFirst(r *arena.Reader, at int) first {
	var w arena.Word
	r.Read(at, &w)
	return first{node: int(w & 0xffff), shorts: uint8(w >> 16)}
}

func writeFirst(a *arena.Arena, at int, f first) {
	a.Write(at, arena.Word(f.node)|arena.Word(f.shorts)<<16)
}

func (f first) hasShort(length int) bool { return f.shorts>>length&1 == 1 }

// longest is the length of the longest short prefix that fits, or -1.
func (f first) longest() int { return bits.Len8(f.shorts) - 1 }

// shortPlace is where the hop of a short prefix lies that fits a first byte.
func shortPlace(family, length int, firstByte byte) int {
	return base(family) + firsts + 1<<length + int(firstByte)>>(firstBits-length)
}

func (t *Tables) first(family int, firstByte byte) (first, int) {
	at := base(family) + int(firstByte)
	r := t.arena.Reader()
	return readFirst(&r, at), at
}

func (t *Tables) insertShort(family int, p prefix, hop int) {
	t.markShort(family, p, 1)
	t.arena.Write(shortPlace(family, p.length, p.key[0]), arena.Word(hop))
}

func (t *Tables) deleteShort(family int, p prefix) bool {
	f, _ := t.first(family, p.key[0])
	if !f.hasShort(p.length) {
		return false
	}
	t.markShort(family, p, 0)
	return true
}

// markShort tells every first byte that a prefix fits whether it is there.
func (t *Tables) markShort(family int, p prefix, there uint8) {
	for i := range firsts >> p.length {
		f, at := t.first(family, p.key[0]+byte(i))
		f.shorts = f.shorts&^(1<<p.length) | there<<p.length
		writeFirst(t.arena, at, f)
	}
}
