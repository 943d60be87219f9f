package byway_test

import (
	"cmp"
	"math/rand"
	"slices"
	"testing"

	"byway/api"
	"byway/byway"
)

func newFib(t *testing.T, words int) *byway.Fib {
	t.Helper()
	f, e := byway.New(words)
	if f == nil || e != api.OK {
		t.Fatalf("New(%d): %v, %d", words, f != nil, e)
	}
	return f
}

func insert(family int, bits string, length, hop int) api.Op {
	return api.Op{Code: api.Insert, Family: family, Bits: bits, Len: length, Hop: hop}
}

func remove(family int, bits string, length int) api.Op {
	return api.Op{Code: api.Delete, Family: family, Bits: bits, Len: length}
}

func lookup(family int, bits string) api.Op {
	return api.Op{Code: api.Lookup, Family: family, Bits: bits}
}

// compact compacts, and answers how many words are free then.
func compact(t *testing.T, f *byway.Fib) int {
	t.Helper()
	check(t, f, api.Op{Code: api.Compact}, api.OK, 0)
	return f.Free()
}

func route(bits string, length, hop int) api.Route {
	return api.Route{Bits: bits, Len: length, Hop: hop}
}

// six is sixteen bytes, these first, then zeros.
func six(bits string) string {
	b := make([]byte, 16)
	copy(b, bits)
	return string(b)
}

// head is the first bits of an address, then zeros.
func head(address string, length int) string {
	b := []byte(address)
	for i := length; i < 8*len(b); i++ {
		b[i/8] &^= 0x80 >> (i % 8)
	}
	return string(b)
}

// flip is an address with another bit there.
func flip(address string, bit int) string {
	b := []byte(address)
	b[bit/8] ^= 0x80 >> (bit % 8)
	return string(b)
}

func mostReads(family int) int {
	if family == api.Six {
		return api.Reads6
	}
	return api.Reads4
}

// check runs one operation and holds all of its answer but the number of reads against what is wanted.
func check(t *testing.T, f *byway.Fib, op api.Op, err api.Errno, hop int) {
	t.Helper()
	l := f.Run(op)
	if len(l) != 1 {
		t.Fatalf("%d answers to one operation", len(l))
	}
	a := l[0]
	if a.Err != err || a.Hop != hop {
		t.Fatalf("Run(%#v) = %#v, want %d, hop %d", op, a, err, hop)
	}
	least, most := 0, 0
	if op.Code == api.Lookup && (err == api.OK || err == api.ErrNone) {
		least, most = 1, mostReads(op.Family)
	}
	if a.Reads < least || a.Reads > most {
		t.Fatalf("Run(%#v) = %#v: %d to %d reads are right", op, a, least, most)
	}
}

func checkDump(t *testing.T, f *byway.Fib, family int, want ...api.Route) {
	t.Helper()
	if got := f.Dump(family); !slices.Equal(got, want) {
		t.Fatalf("Dump(%d) = %#v, want %#v", family, got, want)
	}
}

// model is the routes of both families in the plainest way: what the tables are held against.
type model map[int]map[api.Route]int // by family, then by prefix (a route of hop 0)

func newModel() model {
	return model{api.Four: {}, api.Six: {}}
}

func (m model) count() int { return len(m[api.Four]) + len(m[api.Six]) }

func (m model) find(family int, address string) (hop int, found bool) {
	longest := -1
	for p, h := range m[family] {
		if p.Len > longest && head(address, p.Len) == p.Bits {
			longest, hop = p.Len, h
		}
	}
	return hop, longest >= 0
}

func (m model) dump(family int) []api.Route {
	var l []api.Route
	for p, h := range m[family] {
		l = append(l, route(p.Bits, p.Len, h))
	}
	slices.SortFunc(l, func(a, b api.Route) int {
		return cmp.Or(cmp.Compare(a.Bits, b.Bits), cmp.Compare(a.Len, b.Len))
	})
	return l
}

func checkModel(t *testing.T, f *byway.Fib, m model) {
	t.Helper()
	checkDump(t, f, api.Four, m.dump(api.Four)...)
	checkDump(t, f, api.Six, m.dump(api.Six)...)
}

func checkLookup(t *testing.T, f *byway.Fib, m model, family int, address string) {
	t.Helper()
	if hop, found := m.find(family, address); found {
		check(t, f, lookup(family, address), api.OK, hop)
	} else {
		check(t, f, lookup(family, address), api.ErrNone, 0)
	}
}

// drawFamily draws a family, and how many bytes its addresses have.
func drawFamily(r *rand.Rand) (family, size int) {
	if r.Intn(2) == 0 {
		return api.Four, 4
	}
	return api.Six, 16
}

// drawAddress draws of few bytes, so that prefixes often lie in one another.
func drawAddress(r *rand.Rand, size int) string {
	b := make([]byte, size)
	for i := range b {
		b[i] = "\x00\x01\x80\xff\x5a"[r.Intn(5)]
	}
	return string(b)
}
