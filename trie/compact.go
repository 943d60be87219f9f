package trie

import "byway/arena"

// Compact copies all that is in use into a new arena, in a row, so that the free words are in a row too. No route changes.
func (t *Tables) Compact() {
	old := t.arena.Reader()
	t.arena = arena.New(t.arena.Size(), fixedWords)
	for start := 0; start < fixedWords; start += familyWords {
		t.copyFirsts(&old, start)
		t.copyWords(&old, start+firsts, arena.Block{At: start + firsts, Size: firsts})
	}
}

func (t *Tables) copyFirsts(old *arena.Reader, start int) {
	for at := start; at < start+firsts; at++ {
		f := readFirst(old, at)
		if f.node != 0 {
			b := t.mustTake(nodeWords)
			t.copyNode(old, f.node, b.At)
			f.node = b.At
		}
		writeFirst(t.arena, at, f)
	}
}

func (t *Tables) copyNode(old *arena.Reader, from, to int) {
	n := readNode(old, from)
	if b := n.hopBlock(); b.Size > 0 {
		n.hops = t.mustTake(b.Size).At
		t.copyWords(old, b.At, n.hopBlock())
	}
	if b := n.childBlock(); b.Size > 0 {
		n.children = t.mustTake(b.Size).At
		for i := 0; i < b.Size; i += nodeWords {
			t.copyNode(old, b.At+i, n.children+i)
		}
	}
	writeNode(t.arena, to, n)
}

func (t *Tables) copyWords(old *arena.Reader, from int, to arena.Block) {
	var w arena.Word
	for i := range to.Size {
		old.Read(from+i, &w)
		t.arena.Write(to.At+i, w)
	}
}

// mustTake takes a block that there is room for, as what is in use was in an arena of the same size before.
func (t *Tables) mustTake(size int) arena.Block {
	b, _ := t.arena.Take(size)
	return b
}
