// Package arena: a fixed number of words, handed out in blocks that are found by their numbers.
package arena

// Word is what an arena is made of.
type Word uint32

// MaxBlock is how many words a block has at most.
const MaxBlock = 32

// Block is some words in a row. Place 0 lies in the fixed part of every arena: a block there is none.
type Block struct {
	At, Size int
}

// Arena is a row of words: a fixed part, then blocks, then what no block was taken from yet.
type Arena struct {
	words []Word
	top   int
	given [MaxBlock + 1]int // for each size the first block that was given back: its first word tells the next one
	free  int
}

// New makes an arena whose first words, so many as fixed says (1 at least), are in use for good.
func New(size, fixed int) *Arena {
	return &Arena{words: make([]Word, size), top: fixed, free: size - fixed}
}

// Size tells how many words there are.
func (a *Arena) Size() int { return len(a.words) }

// Free tells how many words are in no block and not in the fixed part.
func (a *Arena) Free() int { return a.free }

// Write puts words in a row.
func (a *Arena) Write(at int, words ...Word) { copy(a.words[at:], words) }

// Take hands out a block: the smallest of those given back that is large enough, or else a new one.
func (a *Arena) Take(size int) (Block, bool) {
	for s := size; s <= MaxBlock; s++ {
		if at := a.given[s]; at != 0 {
			a.given[s] = int(a.words[at])
			a.free -= s
			a.Give(Block{at + size, s - size})
			return Block{at, size}, true
		}
	}
	if size > len(a.words)-a.top {
		return Block{}, false
	}
	b := Block{a.top, size}
	a.top += size
	a.free -= size
	return b, true
}

// Give takes a block back, so that Take may hand it out again. It may be a piece of one that was taken.
func (a *Arena) Give(b Block) {
	if b.Size == 0 {
		return
	}
	a.words[b.At] = Word(a.given[b.Size])
	a.given[b.Size] = b.At
	a.free += b.Size
}

// Grow copies a block to a new one that has more words, at gap, and gives the old one back. Without room nothing changes.
func (a *Arena) Grow(b Block, gap, more int) (Block, bool) {
	wide, ok := a.Take(b.Size + more)
	if !ok {
		return Block{}, false
	}
	old := a.words[b.At : b.At+b.Size]
	copy(a.words[wide.At:], old[:gap])
	copy(a.words[wide.At+gap+more:], old[gap:])
	a.Give(b)
	return wide, true
}

// Shrink takes some words at gap out of a block: what follows moves up, and the end is given back.
func (a *Arena) Shrink(b Block, gap, less int) Block {
	words := a.words[b.At : b.At+b.Size]
	copy(words[gap:], words[gap+less:])
	a.Give(Block{b.At + b.Size - less, less})
	if b.Size == less {
		return Block{}
	}
	return Block{b.At, b.Size - less}
}
