package byway_test

import (
	"math"
	"math/rand"
	"slices"
	"strings"
	"testing"

	"byway/api"
	"byway/byway"
)

// inserts are the operations that make a model's routes, in any order.
func inserts(r *rand.Rand, m model) []api.Op {
	var ops []api.Op
	for _, family := range []int{api.Four, api.Six} {
		for _, x := range m.dump(family) {
			ops = append(ops, insert(family, x.Bits, x.Len, x.Hop))
		}
	}
	r.Shuffle(len(ops), func(i, j int) { ops[i], ops[j] = ops[j], ops[i] })
	return ops
}

// checkFree compacts, and holds what is free then against its bounds.
func checkFree(t *testing.T, f *byway.Fib, m model, words int) int {
	t.Helper()
	free := compact(t, f)
	checkModel(t, f, m)
	long := 0
	for _, family := range []int{api.Four, api.Six} {
		for p := range m[family] {
			if p.Len > 7 {
				long++
			}
		}
	}
	if least := max(words-api.Fixed-api.PerRoute*m.count(), 0); free < least {
		t.Fatalf("%d routes in %d words: %d are free, less than %d", m.count(), words, free, least)
	}
	if free > words-long {
		t.Fatalf("%d long routes in %d words: %d are free", long, words, free)
	}
	return free
}

func TestP10CompactTakesAnything(t *testing.T) {
	f := newFib(t, api.MinWords)
	check(t, f, insert(api.Four, "\x0a\x00\x00\x00", 8, 1), api.OK, 0)
	for _, n := range []int{math.MinInt, -1, 0, 4, 6, 33, 129, 65536, math.MaxInt} {
		for _, bits := range []string{"", "x", "\xff\xff\xff\xff", strings.Repeat("\xff", 17)} {
			check(t, f, api.Op{Code: api.Compact, Family: n, Bits: bits, Len: n, Hop: n}, api.OK, 0)
		}
	}
	checkDump(t, f, api.Four, route("\x0a\x00\x00\x00", 8, 1))
	checkDump(t, f, api.Six)
}

func TestP10WithoutRoutes(t *testing.T) {
	for _, words := range []int{2048, 2049, 30000, 65535, 65536} {
		f := newFib(t, words)
		free := f.Free()
		if free < words-api.Fixed || free > words {
			t.Errorf("%d words: %d are free", words, free)
		}
		if n := checkFree(t, f, newModel(), words); n != free {
			t.Errorf("%d words: %d are free, compacted %d", words, free, n)
		}
		m := newModel()
		fill(t, f, m, 1)
		emptyOut(t, f, m)
		if n := compact(t, f); n != free {
			t.Errorf("%d words: %d were free behind New, and %d when all routes are gone", words, free, n)
		}
	}
}

// TestP10SameRoutes: what is free hangs on the routes that are there, not on how they came.
func TestP10SameRoutes(t *testing.T) {
	r := rand.New(rand.NewSource(31))
	for _, c := range []struct{ words, most int }{{2048, 12}, {3000, 3000}, {8192, 108}, {65536, 400}} {
		f, m := newFib(t, c.words), newModel()
		for range 15 {
			churn(t, r, f, m, c.words, c.most, 300)
			free := checkFree(t, f, m, c.words)
			g := newFib(t, c.words)
			for _, op := range inserts(r, m) {
				if a := g.Run(op)[0]; a.Err == api.ErrFull { // it may be, where f was refused too
					break
				}
			}
			if slices.Equal(f.Dump(api.Four), g.Dump(api.Four)) && slices.Equal(f.Dump(api.Six), g.Dump(api.Six)) {
				if n := compact(t, g); n != free {
					t.Fatalf("%d routes in %d words: %d are free, and %d where they came otherwise", m.count(), c.words, free, n)
				}
			} else if m.count() <= roomFor(c.words) {
				t.Fatalf("%d routes did not come again in %d words", m.count(), c.words)
			}
		}
	}
}

// TestP10HopsDoNotMatter: another hop in the place of one needs no word more.
func TestP10HopsDoNotMatter(t *testing.T) {
	f := newFib(t, api.MinWords)
	for _, length := range []int{0, 7, 8, 31, 128} {
		bits := head(strings.Repeat("\xb7", 16), length)
		check(t, f, insert(api.Six, bits, length, 0), api.OK, 0)
		free := compact(t, f)
		for _, hop := range []int{1, 256, api.MaxHop} {
			check(t, f, insert(api.Six, bits, length, hop), api.OK, 0)
			if n := compact(t, f); n != free {
				t.Errorf("length %d, hop %d: %d words are free, not %d", length, hop, n, free)
			}
		}
	}
}

// TestP10OneMore: a route more never leaves more words free, a route less never fewer.
func TestP10OneMore(t *testing.T) {
	r := rand.New(rand.NewSource(32))
	const words = 20000
	f, m := newFib(t, words), newModel()
	empty := f.Free()
	last := empty
	for range 280 {
		family, size := drawFamily(r)
		length := r.Intn(8*size + 1)
		p := route(head(drawAddress(r, size), length), length, 0)
		_, there := m[family][p]
		check(t, f, insert(family, p.Bits, p.Len, 7), api.OK, 0)
		m[family][p] = 7
		free := checkFree(t, f, m, words)
		if free > last || there && free != last {
			t.Fatalf("%#v came, and %d words are free, not %d", p, free, last)
		}
		last = free
	}
	for _, op := range inserts(r, m) {
		op.Code = api.Delete
		check(t, f, op, api.OK, 0)
		delete(m[op.Family], route(op.Bits, op.Len, 0))
		free := checkFree(t, f, m, words)
		if free < last {
			t.Fatalf("%#v went, and %d words are free, not %d", op, free, last)
		}
		last = free
	}
	if last != empty {
		t.Errorf("without routes %d words are free, not %d", last, empty)
	}
}

// TestP10ManyWordsEach: routes that share as little as they can still need no more than their share.
func TestP10ManyWordsEach(t *testing.T) {
	for _, words := range []int{2048, 5000} {
		f, m := newFib(t, words), newModel()
		for i := range roomFor(words) {
			check(t, f, insert(api.Six, apart(i), 128, i), api.OK, 0)
			m[api.Six][route(apart(i), 128, 0)] = i
			checkFree(t, f, m, words)
		}
	}
}

// TestP10FewWordsEach: routes that share all they can, as many as go in; each needs a word of its own.
func TestP10FewWordsEach(t *testing.T) {
	const words = api.MinWords
	f, m := newFib(t, words), newModel()
	refused := false
	for length := 32; length >= 0; length-- {
		for i := range min(1<<length, 512) {
			n := uint32(i) << (32 - length)
			bits := string([]byte{byte(n >> 24), byte(n >> 16), byte(n >> 8), byte(n)})
			switch a := f.Run(insert(api.Four, bits, length, i))[0]; a {
			case api.Answer{}:
				m[api.Four][route(bits, length, 0)] = i
			case api.Answer{Err: api.ErrFull}:
				refused = true
			default:
				t.Fatalf("Insert of %q, %d: %#v", bits, length, a)
			}
		}
		checkFree(t, f, m, words)
	}
	if !refused {
		t.Errorf("never full")
	}
}

// TestP10NothingElseChanges: with Compacts between them, operations answer the same but for their reads.
func TestP10NothingElseChanges(t *testing.T) {
	r := rand.New(rand.NewSource(33))
	f, g := newFib(t, api.MaxWords), newFib(t, api.MaxWords)
	for i, op := range drawOps(r, 2500) {
		a, b := f.Run(op)[0], g.Run(op)[0]
		a.Reads, b.Reads = 0, 0
		if a != b || a.Err == api.ErrFull {
			t.Fatalf("Run(%#v) = %#v, compacted %#v", op, a, b)
		}
		compact(t, g)
		if i%100 == 0 && (!slices.Equal(f.Dump(api.Four), g.Dump(api.Four)) || !slices.Equal(f.Dump(api.Six), g.Dump(api.Six))) {
			t.Fatalf("step %d: compacting changed the routes", i)
		}
	}
}
