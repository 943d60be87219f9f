package trie

import (
	"math/rand"
	"slices"
	"testing"

	"byway/api"
	"byway/arena"
)

// inUse marks the words that the tables lead to, and fails if two blocks share one.
func inUse(t *testing.T, tables *Tables) int {
	t.Helper()
	seen := make([]bool, tables.arena.Size())
	count := 0
	mark := func(b arena.Block) {
		for at := b.At; at < b.At+b.Size; at++ {
			if seen[at] {
				t.Fatalf("word %d is in two blocks", at)
			}
			seen[at] = true
			count++
		}
	}
	mark(arena.Block{At: 0, Size: fixedWords})
	var below func(at int)
	below = func(at int) {
		n := tables.node(at)
		if n.empty() {
			t.Fatalf("an empty node at %d", at)
		}
		mark(n.hopBlock())
		mark(n.childBlock())
		for i := 0; i < n.childBlock().Size; i += nodeWords {
			below(n.children + i)
		}
	}
	for _, family := range []int{api.Four, api.Six} {
		for b := range firsts {
			if f, _ := tables.first(family, byte(b)); f.node != 0 {
				mark(arena.Block{At: f.node, Size: nodeWords})
				below(f.node)
			}
		}
	}
	return count
}

func drawn(r *rand.Rand) (int, api.Route) {
	family, size := api.Four, 4
	if r.Intn(2) == 0 {
		family, size = api.Six, 16
	}
	b := make([]byte, size)
	for i := range b {
		b[i] = byte(r.Intn(3)) * 0x11
	}
	length := r.Intn(8*size + 1)
	for i := length; i < 8*size; i++ {
		b[i/8] &^= 0x80 >> (i % 8)
	}
	return family, api.Route{Bits: string(b), Len: length, Hop: r.Intn(api.MaxHop + 1)}
}

// TestNothingLeaks: each word is in use or free, and compacting changes nothing but where the blocks lie.
func TestNothingLeaks(t *testing.T) {
	r := rand.New(rand.NewSource(3))
	tables := New(3000)
	var have [2][]api.Route
	full := 0
	for i := range 20000 {
		family, route := drawn(r)
		list := &have[family/2-2]
		if n := len(*list); n > 0 && r.Intn(2) == 0 {
			k := r.Intn(n)
			if !tables.Delete(family, (*list)[k].Bits, (*list)[k].Len) {
				t.Fatalf("step %d: %#v was not there", i, (*list)[k])
			}
			*list = slices.Delete(*list, k, k+1)
		} else if tables.Insert(family, route) {
			same := func(x api.Route) bool { return x.Bits == route.Bits && x.Len == route.Len }
			*list = append(slices.DeleteFunc(*list, same), route)
		} else {
			full++
		}
		if n := inUse(t, tables); n+tables.arena.Free() != tables.arena.Size() {
			t.Fatalf("step %d: %d in use, %d free, of %d", i, n, tables.arena.Free(), tables.arena.Size())
		}
		if i%100 == 0 {
			compacting(t, tables)
		}
	}
	if full == 0 {
		t.Errorf("the arena was never full")
	}
	for k, list := range have {
		for _, x := range list {
			if !tables.Delete(4+2*k, x.Bits, x.Len) {
				t.Errorf("%#v was not there", x)
			}
		}
	}
	if free := tables.arena.Free(); free != 3000-fixedWords {
		t.Errorf("without routes %d words are free", free)
	}
}

func compacting(t *testing.T, tables *Tables) {
	t.Helper()
	free, four, six := tables.arena.Free(), tables.Dump(api.Four), tables.Dump(api.Six)
	tables.Compact()
	if tables.arena.Free() != free || !slices.Equal(tables.Dump(api.Four), four) || !slices.Equal(tables.Dump(api.Six), six) {
		t.Fatalf("compacting changed the routes, or %d free words to %d", free, tables.arena.Free())
	}
	for left := free; left > 0; left -= arena.MaxBlock {
		if _, ok := tables.arena.Take(min(left, arena.MaxBlock)); !ok {
			t.Fatalf("compacted, but the last %d free words are not in a row", left)
		}
	}
	tables.Compact() // nothing leads to the blocks just taken
}

// TestRoomInPieces: when all that is free are single words, a chain of nodes still finds room.
func TestRoomInPieces(t *testing.T) {
	for _, length := range []int{8, 12, 128} {
		tables := New(api.MinWords)
		var kept []api.Route
		for b := range 256 { // most are refused: the arena is full
			for number := range 8 { // the prefixes of three further bits
				tables.Insert(api.Four, api.Route{Bits: string([]byte{byte(b), byte(number << 5), 0, 0}), Len: 11, Hop: b})
			}
		}
		for _, route := range tables.Dump(api.Four) {
			if route.Bits[1] == 0 {
				kept = append(kept, route)
			} else if !tables.Delete(api.Four, route.Bits, route.Len) {
				t.Fatalf("%#v was not there", route)
			}
		}
		route := api.Route{Bits: "\x10\x00" + string(make([]byte, 14)), Len: length, Hop: 7}
		if !tables.Insert(api.Six, route) {
			t.Fatalf("no room with %d words free", tables.arena.Free())
		}
		if l := tables.Dump(api.Six); !slices.Equal(l, []api.Route{route}) {
			t.Errorf("%#v", l)
		}
		if l := tables.Dump(api.Four); !slices.Equal(l, kept) {
			t.Errorf("%#v, want %#v", l, kept)
		}
		if n := inUse(t, tables); n+tables.arena.Free() != tables.arena.Size() {
			t.Errorf("%d in use, %d free", n, tables.arena.Free())
		}
	}
}

func TestNumbers(t *testing.T) {
	seen := map[int]bool{}
	for further := range stepBits {
		for value := range 1 << further {
			seen[numberOf(further, value)] = true
		}
	}
	for number := range 15 {
		if !seen[number] {
			t.Errorf("no prefix has the number %d", number)
		}
	}
	if len(seen) != 15 {
		t.Errorf("%d numbers", len(seen))
	}
}

func TestKey(t *testing.T) {
	k := keyOf("\x12\x34\x56")
	for depth, want := range []int{3, 4, 5, 6, 0} {
		if got := k.four(depth); got != want {
			t.Errorf("four(%d) = %d, want %d", depth, got, want)
		}
	}
	if got := k.with(0, 9).with(3, 15); got != keyOf("\x12\x94\x5f") || k != keyOf("\x12\x34\x56") {
		t.Errorf("with: %v, of %v", got, k)
	}
	if keyOf("0123456789abcdef").four(30) != 0 {
		t.Errorf("bits behind the last")
	}
}
