package byway_test

import (
	"math/bits"
	"math/rand"
	"testing"

	"byway/api"
	"byway/byway"
)

// roomFor is how many routes an arena has room for at least.
func roomFor(words int) int { return (words - api.Fixed) / api.PerRoute }

// apart is the longest prefix number i of some that part as early as they can, so that they need the most nodes.
func apart(i int) string {
	b := []byte("0123456789abcdef")
	n := bits.Reverse16(uint16(i))
	b[0], b[1] = byte(n>>8), byte(n)
	return string(b)
}

// together is the longest prefix number i of some that part as late as they can.
func together(i int) string {
	b := []byte("0123456789abcdef")
	b[14], b[15] = byte(i>>8), byte(i)
	return string(b)
}

func TestP8RoomForRoutes(t *testing.T) {
	r := rand.New(rand.NewSource(21))
	anywhere := map[int]string{}
	for i := range roomFor(api.MaxWords) {
		b := make([]byte, 16)
		r.Read(b)
		anywhere[i] = string(b)
	}
	shapes := []func(int) string{apart, together, func(i int) string { return anywhere[i] }}
	for _, words := range []int{2048, 2111, 2112, 5000, 65535, 65536} {
		for _, shape := range shapes {
			f := newFib(t, words)
			n := roomFor(words)
			for i := range n {
				check(t, f, insert(api.Six, shape(i), 128, i), api.OK, 0)
			}
			for i := range n {
				check(t, f, lookup(api.Six, shape(i)), api.OK, i)
			}
			if l := f.Dump(api.Six); len(l) != n {
				t.Fatalf("%d words: %d routes of %d", words, len(l), n)
			}
		}
	}
}

// churn holds a Fib against a model: some routes come, some go, and an Insert is refused only where it may be.
func churn(t *testing.T, r *rand.Rand, f *byway.Fib, m model, words, most, steps int) (refused int) {
	t.Helper()
	for range steps {
		family, size := drawFamily(r)
		address := drawAddress(r, size)
		length := 8*size - r.Intn(4)
		if r.Intn(3) == 0 {
			length = r.Intn(8*size + 1)
		}
		p := route(head(address, length), length, 0)
		_, there := m[family][p]
		if there || m.count() >= most {
			if !there {
				p = anyOf(r, m[family])
			}
			if _, ok := m[family][p]; ok {
				check(t, f, remove(family, p.Bits, p.Len), api.OK, 0)
				delete(m[family], p)
			}
		} else {
			hop := r.Intn(api.MaxHop + 1)
			a := f.Run(insert(family, p.Bits, p.Len, hop))[0]
			if a == (api.Answer{Err: api.ErrFull}) && api.PerRoute*(m.count()+1)+api.Fixed > words {
				refused++
			} else if a != (api.Answer{}) {
				t.Fatalf("Insert with %d routes in %d words: %#v", m.count(), words, a)
			} else {
				m[family][p] = hop
			}
		}
		checkLookup(t, f, m, family, address)
	}
	return refused
}

// anyOf draws one of the prefixes, in an order that does not hang on the map's.
func anyOf(r *rand.Rand, routes map[api.Route]int) api.Route {
	l := model{0: routes}.dump(0)
	if len(l) == 0 {
		return api.Route{}
	}
	x := l[r.Intn(len(l))]
	return route(x.Bits, x.Len, 0)
}

// TestP8RoomStays: as many routes as there must be room for, again and again others.
func TestP8RoomStays(t *testing.T) {
	r := rand.New(rand.NewSource(22))
	for _, c := range []struct{ words, steps int }{{2048, 30000}, {3333, 20000}, {8192, 5000}, {65536, 5000}} {
		f, m := newFib(t, c.words), newModel()
		if n := churn(t, r, f, m, c.words, roomFor(c.words), c.steps); n > 0 {
			t.Errorf("%d words: %d refused", c.words, n)
		}
		checkModel(t, f, m)
	}
}

// TestP8Full: more routes than fit. What is refused changes nothing, and all else goes on.
func TestP8Full(t *testing.T) {
	r := rand.New(rand.NewSource(23))
	for _, words := range []int{2048, 2500, 6000} {
		f, m := newFib(t, words), newModel()
		if churn(t, r, f, m, words, words, 10000) == 0 {
			t.Errorf("%d words: never full", words)
		}
		checkModel(t, f, m)
		emptyOut(t, f, m)
	}
}

// emptyOut deletes all routes, which is never refused, also where an arena is full.
func emptyOut(t *testing.T, f *byway.Fib, m model) {
	t.Helper()
	for _, family := range []int{api.Four, api.Six} {
		for _, x := range m.dump(family) {
			check(t, f, remove(family, x.Bits, x.Len), api.OK, 0)
		}
	}
	checkModel(t, f, newModel())
}

// fill inserts routes until one is refused, and answers how many went in.
func fill(t *testing.T, f *byway.Fib, m model, step int) int {
	t.Helper()
	for i := 0; ; i++ {
		bits := apart(i * step)
		a := f.Run(insert(api.Six, bits, 128, i))[0]
		if a == (api.Answer{Err: api.ErrFull}) {
			return i
		}
		if a != (api.Answer{}) {
			t.Fatalf("Insert of route %d: %#v", i, a)
		}
		m[api.Six][route(bits, 128, 0)] = i
	}
}

// TestP8FullThenEmpty: what a full arena still takes is what needs no block: a short prefix, another hop.
func TestP8FullThenEmpty(t *testing.T) {
	for _, words := range []int{2048, 65536} {
		f := newFib(t, words)
		for step := 1; step <= 5; step += 2 {
			m := newModel()
			if n := fill(t, f, m, step); n < roomFor(words) {
				t.Fatalf("%d words: full with %d routes", words, n)
			}
			checkModel(t, f, m)
			check(t, f, insert(api.Four, "\x00\x00\x00\x00", 0, 1), api.OK, 0)
			check(t, f, insert(api.Six, apart(0), 128, 9), api.OK, 0)
			m[api.Four][route("\x00\x00\x00\x00", 0, 0)] = 1
			m[api.Six][route(apart(0), 128, 0)] = 9
			checkModel(t, f, m)
			emptyOut(t, f, m)
		}
	}
}
