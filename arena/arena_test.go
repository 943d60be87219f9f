package arena

import (
	"math/rand"
	"slices"
	"testing"
)

func take(t *testing.T, a *Arena, size int) Block {
	t.Helper()
	b, ok := a.Take(size)
	if !ok || b.Size != size || b.At < 1 || b.At+size > a.Size() {
		t.Fatalf("Take(%d) = %+v, %v", size, b, ok)
	}
	return b
}

func words(a *Arena, b Block) []Word {
	r := a.Reader()
	l := make([]Word, b.Size)
	for i := range l {
		r.Read(b.At+i, &l[i])
	}
	return l
}

func TestTakeUntilFull(t *testing.T) {
	a := New(40, 4)
	take(t, a, 32)
	if _, ok := a.Take(5); ok {
		t.Errorf("a block of 5 of the 4 words that are free")
	}
	if b := take(t, a, 4); b.At != 36 || a.Free() != 0 {
		t.Errorf("the last block: %+v, free %d", b, a.Free())
	}
	if _, ok := a.Take(1); ok {
		t.Errorf("a block of a full arena")
	}
}

func TestGivenBackIsUsedAgain(t *testing.T) {
	a := New(40, 4)
	b := take(t, a, 32)
	take(t, a, 4)
	a.Give(b)
	a.Give(Block{})
	if a.Free() != 32 {
		t.Fatalf("free: %d", a.Free())
	}
	for i := range 4 {
		take(t, a, 8)
		if a.Free() != 24-8*i {
			t.Errorf("free: %d", a.Free())
		}
	}
}

func TestGrowAndShrink(t *testing.T) {
	a := New(100, 1)
	b, ok := a.Grow(Block{}, 0, 2)
	if !ok {
		t.Fatal("no room")
	}
	a.Write(b.At, 1, 4)
	b, ok = a.Grow(b, 1, 2)
	if !ok || a.Free() != 99-4 {
		t.Fatalf("%v, free %d", ok, a.Free())
	}
	a.Write(b.At+1, 2, 3)
	if l := words(a, b); !slices.Equal(l, []Word{1, 2, 3, 4}) {
		t.Errorf("grown: %v", l)
	}
	b = a.Shrink(b, 0, 1)
	if l := words(a, b); !slices.Equal(l, []Word{2, 3, 4}) || a.Free() != 99-3 {
		t.Errorf("shrunk: %v, free %d", l, a.Free())
	}
	b = a.Shrink(b, 1, 2)
	if l := words(a, b); !slices.Equal(l, []Word{2}) {
		t.Errorf("shrunk: %v", l)
	}
	if b = a.Shrink(b, 0, 1); b != (Block{}) || a.Free() != 99 {
		t.Errorf("shrunk to nothing: %+v, free %d", b, a.Free())
	}
}

func TestGrowWithoutRoom(t *testing.T) {
	a := New(10, 1)
	b := take(t, a, 5)
	a.Write(b.At, 1, 2, 3, 4, 5)
	if _, ok := a.Grow(b, 2, 1); ok {
		t.Errorf("grown without room")
	}
	if l := words(a, b); !slices.Equal(l, []Word{1, 2, 3, 4, 5}) || a.Free() != 4 {
		t.Errorf("changed: %v, free %d", l, a.Free())
	}
}

func TestReadsAreCounted(t *testing.T) {
	a := New(10, 5)
	a.Write(1, 7, 8, 9)
	r, other := a.Reader(), a.Reader()
	var x, y, z Word
	r.Read(1, &x)
	r.Read(2, &y, &z)
	if x != 7 || y != 8 || z != 9 || r.Count() != 2 || other.Count() != 0 {
		t.Errorf("read %d %d %d by %d and %d", x, y, z, r.Count(), other.Count())
	}
	r.Read(1, &x, &y, &z)
	if r.Count() != 4 {
		t.Errorf("three words are two reads: %d", r.Count()-2)
	}
}

// TestBlocksStayApart: what is written to one block stays there, whatever becomes of the others.
func TestBlocksStayApart(t *testing.T) {
	r := rand.New(rand.NewSource(1))
	a := New(500, 3)
	have := map[int]Block{}
	used := 3
	for i := range 20000 {
		k := r.Intn(40)
		if b, ok := have[k]; ok {
			for _, w := range words(a, b) {
				if w != Word(k) {
					t.Fatalf("step %d: %d in block %d", i, w, k)
				}
			}
			a.Give(b)
			delete(have, k)
			used -= b.Size
		} else if b, ok := a.Take(1 + r.Intn(MaxBlock)); ok {
			have[k] = b
			used += b.Size
			for j := range b.Size {
				a.Write(b.At+j, Word(k))
			}
		}
		if a.Free() != a.Size()-used {
			t.Fatalf("step %d: free %d, used %d", i, a.Free(), used)
		}
	}
}
