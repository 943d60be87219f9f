package byway_test

import (
	"math"
	"math/rand"
	"slices"
	"strings"
	"testing"

	"byway/api"
	"byway/byway"
)

// P1

func TestP1FirstErrorIsAnswered(t *testing.T) {
	f := newFib(t, api.MinWords)
	ones := strings.Repeat("\xff", 16)
	for _, c := range []struct {
		op   api.Op
		want api.Errno
	}{
		{api.Op{Code: 0, Family: 5, Len: -1, Bits: "x", Hop: -1}, api.ErrCode},
		{api.Op{Code: api.Insert, Family: 5, Len: -1, Bits: "x", Hop: -1}, api.ErrFamily},
		{api.Op{Code: api.Insert, Family: 4, Len: -1, Bits: "x", Hop: -1}, api.ErrLen},
		{api.Op{Code: api.Insert, Family: 4, Len: 33, Bits: ones[:4], Hop: 65536}, api.ErrLen},
		{api.Op{Code: api.Insert, Family: 6, Len: 129, Bits: ones, Hop: 65536}, api.ErrLen},
		{api.Op{Code: api.Insert, Family: 4, Len: 32, Bits: "x", Hop: -1}, api.ErrBits},
		{api.Op{Code: api.Insert, Family: 4, Len: 31, Bits: ones[:4], Hop: -1}, api.ErrBits},
		{api.Op{Code: api.Insert, Family: 4, Len: 32, Bits: ones[:4], Hop: -1}, api.ErrHop},
		{api.Op{Code: api.Delete, Family: 0, Len: -1, Bits: "x"}, api.ErrFamily},
		{api.Op{Code: api.Delete, Family: 6, Len: -1, Bits: "x"}, api.ErrLen},
		{api.Op{Code: api.Delete, Family: 6, Len: 0, Bits: ones}, api.ErrBits},
		{api.Op{Code: api.Delete, Family: 6, Len: 128, Bits: ones, Hop: -1}, api.ErrNone},
		{api.Op{Code: api.Lookup, Family: 7, Len: -1, Bits: "x", Hop: -1}, api.ErrFamily},
		{api.Op{Code: api.Lookup, Family: 6, Len: -1, Bits: ones[:15], Hop: -1}, api.ErrBits},
	} {
		check(t, f, c.op, c.want, 0)
	}
	checkModel(t, f, newModel())
}

// TestP1AnyInput: whatever comes, every call answers, and what is refused changes nothing.
func TestP1AnyInput(t *testing.T) {
	r := rand.New(rand.NewSource(11))
	numbers := []int{math.MinInt, -129, -1, 0, 1, 2, 3, 4, 5, 6, 7, 8, 16, 31, 32, 33, 64, 127, 128, 129, 65535, 65536, math.MaxInt}
	texts := []string{"", "\x00", "\x00\x00\x00\x00", "\x80\x00\x00\x00", "\xff\xff\xff\xff", "\x00\x00\x00\x00\x00", six(""), six("\x80"), strings.Repeat("\xff", 16), six("") + "\x00", strings.Repeat("a", 5000)}
	number := func() int { return numbers[r.Intn(len(numbers))] }
	f := newFib(t, api.MinWords)
	check(t, f, insert(api.Four, "\x00\x00\x00\x00", 0, 5), api.OK, 0)
	done := 0
	for range 20000 {
		op := api.Op{Code: number(), Family: number(), Bits: texts[r.Intn(len(texts))], Len: number(), Hop: number()}
		four, six, free := f.Dump(api.Four), f.Dump(api.Six), f.Free()
		a := f.Run(op)[0]
		if a.Err == api.OK {
			done++
		} else if a.Hop != 0 || a.Reads != 0 && a.Err != api.ErrNone {
			t.Fatalf("Run(%#v) = %#v", op, a)
		} else if !slices.Equal(f.Dump(api.Four), four) || !slices.Equal(f.Dump(api.Six), six) {
			t.Fatalf("Run(%#v) = %#v, but the routes are others", op, a)
		} else if f.Free() != free && a.Err != api.ErrFull {
			t.Fatalf("Run(%#v) = %#v, but %d words are free, not %d", op, a, f.Free(), free)
		}
		f.Dump(number())
		f.Free()
	}
	if done == 0 {
		t.Errorf("nothing was done")
	}
}

// P2

// drawOps: operations of all kinds, some with faults.
func drawOps(r *rand.Rand, count int) []api.Op {
	ops := make([]api.Op, count)
	for i := range ops {
		family, size := drawFamily(r)
		address := drawAddress(r, size)
		length := r.Intn(8*size + 1)
		if r.Intn(2) == 0 {
			length = r.Intn(20)
		}
		switch k := r.Intn(20); {
		case k == 0:
			ops[i] = api.Op{Code: r.Intn(10) - 3, Family: r.Intn(8), Bits: address, Len: length, Hop: r.Intn(70000)}
		case k == 1:
			ops[i] = api.Op{Code: api.Compact, Family: r.Intn(8), Bits: address, Len: length, Hop: r.Intn(70000)}
		case k < 9:
			ops[i] = insert(family, head(address, length), length, r.Intn(api.MaxHop+1))
		case k < 13:
			ops[i] = remove(family, head(address, length), length)
		default:
			ops[i] = lookup(family, address)
		}
	}
	return ops
}

// TestP2OthersDoNotMatter: two Fibs to which the same is done answer the same, whatever is done beside them, and Dump and Free change nothing.
func TestP2OthersDoNotMatter(t *testing.T) {
	r := rand.New(rand.NewSource(12))
	f, g, other := newFib(t, 4000), newFib(t, 4000), newFib(t, 4000)
	for _, op := range drawOps(r, 20000) {
		a, b := f.Run(op), g.Run(op)
		if !slices.Equal(a, b) {
			t.Fatalf("Run(%#v) = %#v and %#v", op, a, b)
		}
		other.Run(drawOps(r, 1)...)
		g.Dump(r.Intn(8))
		if free := g.Free(); g.Free() != free || f.Free() != free {
			t.Fatalf("behind %#v: %d and %d words are free", op, f.Free(), free)
		}
	}
	if !slices.Equal(f.Dump(api.Four), g.Dump(api.Four)) || !slices.Equal(f.Dump(api.Six), g.Dump(api.Six)) {
		t.Errorf("the tables are not the same")
	}
}

func TestP2HandedInIsNotWritten(t *testing.T) {
	r := rand.New(rand.NewSource(13))
	ops := drawOps(r, 300)
	before := slices.Clone(ops)
	f := newFib(t, api.MinWords)
	f.Run(ops[:200]...)
	if !slices.Equal(ops, before) {
		t.Errorf("the operations, or their spare room, were written into")
	}
	dumped := f.Dump(api.Six)
	clear(ops)
	if !slices.Equal(f.Dump(api.Six), dumped) {
		t.Errorf("the operations were kept")
	}
}

func TestP2ComesOutAsNewMemory(t *testing.T) {
	f := newFib(t, api.MinWords)
	ops := []api.Op{
		insert(api.Four, "\x0a\x00\x00\x00", 8, 1),
		insert(api.Four, "\x00\x00\x00\x00", 0, 2),
		insert(api.Four, "\x0a\x01\x00\x00", 16, 3),
		lookup(api.Four, "\x0a\x01\x01\x01"),
	}
	answers := f.Run(ops...)
	routes := f.Dump(api.Four)
	keptAnswers, keptRoutes := slices.Clone(answers), slices.Clone(routes)
	f.Run(ops[3], ops[3], api.Op{}, ops[3])
	f.Run(remove(api.Four, "\x0a\x00\x00\x00", 8), insert(api.Four, "\x00\x00\x00\x00", 0, 7))
	f.Dump(api.Four)
	if !slices.Equal(answers, keptAnswers) || !slices.Equal(routes, keptRoutes) {
		t.Errorf("what came out was changed by a later call")
	}
	for range 2 {
		answers, routes = f.Run(ops...), f.Dump(api.Four)
		if !slices.Equal(answers, keptAnswers) || !slices.Equal(routes, keptRoutes) {
			t.Errorf("%#v, %#v; want %#v, %#v", answers, routes, keptAnswers, keptRoutes)
		}
		answers, routes = answers[:cap(answers)], routes[:cap(routes)]
		for i := range answers {
			answers[i] = api.Answer{Err: 99, Hop: 99, Reads: 99}
		}
		for i := range routes {
			routes[i] = route("none", 99, 99)
		}
	}
}

// P3

func TestP3ArenaSizes(t *testing.T) {
	for _, words := range []int{math.MinInt, -2048, -1, 0, 1, 2047, 65537, 1 << 32, math.MaxInt} {
		if f, e := byway.New(words); f != nil || e != api.ErrArena {
			t.Errorf("New(%d): %v, %d", words, f != nil, e)
		}
	}
	for _, words := range []int{2048, 2049, 30000, 65535, 65536} {
		f := newFib(t, words)
		checkModel(t, f, newModel())
		for b := range 256 {
			check(t, f, lookup(api.Four, string([]byte{byte(b), 1, 2, 3})), api.ErrNone, 0)
			check(t, f, lookup(api.Six, six(string([]byte{byte(b), 1}))), api.ErrNone, 0)
		}
	}
}

// P4

func TestP4OneRunOrSeveral(t *testing.T) {
	r := rand.New(rand.NewSource(14))
	ops := drawOps(r, 5000)
	f, g, h := newFib(t, 3000), newFib(t, 3000), newFib(t, 3000)
	whole := f.Run(ops...)
	if len(whole) != len(ops) {
		t.Fatalf("%d answers to %d operations", len(whole), len(ops))
	}
	var single, parts []api.Answer
	for _, op := range ops {
		single = append(single, g.Run(op)...)
	}
	for rest := ops; len(rest) > 0; {
		n := min(r.Intn(9), len(rest))
		parts = append(parts, h.Run(rest[:n]...)...)
		rest = rest[n:]
	}
	if !slices.Equal(whole, single) || !slices.Equal(whole, parts) {
		t.Errorf("one Run answers otherwise than several")
	}
	if !slices.Equal(f.Dump(api.Six), g.Dump(api.Six)) || !slices.Equal(f.Dump(api.Four), h.Dump(api.Four)) {
		t.Errorf("one Run leaves other routes than several")
	}
	if f.Free() != g.Free() || f.Free() != h.Free() {
		t.Errorf("one Run leaves other words free than several: %d, %d, %d", f.Free(), g.Free(), h.Free())
	}
}

func TestP4AnswersInOrder(t *testing.T) {
	f := newFib(t, api.MinWords)
	if l := f.Run(); len(l) != 0 {
		t.Errorf("Run() = %#v", l)
	}
	find := lookup(api.Four, "\x0a\x00\x00\x01")
	l := f.Run(
		find,
		insert(api.Four, "\x0a\x00\x00\x00", 8, 1),
		find,
		insert(api.Four, "\x0a\x00\x00\x00", 7, 2),
		insert(api.Four, "\x0a\x00\x00\x00", 8, -2),
		find,
		insert(api.Four, "\x0a\x00\x00\x00", 8, 3),
		find,
		remove(api.Four, "\x0a\x00\x00\x00", 8),
		find,
	)
	want := []api.Answer{{Err: api.ErrNone}, {}, {Hop: 1}, {}, {Err: api.ErrHop}, {Hop: 1}, {}, {Hop: 3}, {}, {Hop: 2}}
	for i := range l {
		l[i].Reads = 0
	}
	if !slices.Equal(l, want) {
		t.Errorf("%#v, want %#v", l, want)
	}
}

func TestP4Codes(t *testing.T) {
	f := newFib(t, api.MinWords)
	for _, code := range []int{math.MinInt, -4, -1, 0, 5, 6, 260, math.MaxInt} {
		check(t, f, api.Op{Code: code, Family: 4, Bits: "\x00\x00\x00\x00"}, api.ErrCode, 0)
	}
	for code := api.Insert; code <= api.Compact; code++ {
		if a := f.Run(api.Op{Code: code, Family: 4, Bits: "abcd", Len: 32})[0]; a.Err == api.ErrCode {
			t.Errorf("the code %d is none", code)
		}
	}
}

// P5

func TestP5LengthsAndBits(t *testing.T) {
	for _, c := range []struct{ family, size int }{{api.Four, 4}, {api.Six, 16}} {
		f := newFib(t, api.MaxWords)
		ones, most := strings.Repeat("\xff", c.size), 8*c.size
		for _, length := range []int{math.MinInt, -8, -1, most + 1, most + 8, 256, 1 << 32, math.MaxInt} {
			check(t, f, insert(c.family, string(make([]byte, c.size)), length, 1), api.ErrLen, 0)
		}
		for length := range most + 1 {
			for bit := length; bit < most; bit++ {
				check(t, f, insert(c.family, flip(head(ones, length), bit), length, 1), api.ErrBits, 0)
			}
			for _, size := range []int{0, c.size - 1, c.size + 1, 20 - c.size, 256 + c.size} {
				check(t, f, insert(c.family, string(make([]byte, size)), length, 1), api.ErrBits, 0)
			}
			checkModel(t, f, newModel())
			check(t, f, insert(c.family, head(ones, length), length, length), api.OK, 0)
			checkDump(t, f, c.family, route(head(ones, length), length, length))
			check(t, f, lookup(c.family, ones), api.OK, length)
			check(t, f, remove(c.family, head(ones, length), length), api.OK, 0)
		}
	}
}

func TestP5Families(t *testing.T) {
	f := newFib(t, api.MinWords)
	for _, family := range []int{math.MinInt, -6, -4, 0, 1, 2, 3, 5, 7, 8, 10, 16, 260, math.MaxInt} {
		for _, bits := range []string{"", "\x00\x00\x00\x00", six("")} {
			check(t, f, insert(family, bits, 0, 0), api.ErrFamily, 0)
			check(t, f, remove(family, bits, 0), api.ErrFamily, 0)
			check(t, f, lookup(family, bits), api.ErrFamily, 0)
		}
	}
	checkModel(t, f, newModel())
}

func TestP5Hops(t *testing.T) {
	f := newFib(t, api.MinWords)
	for _, length := range []int{0, 7, 8, 20, 32} {
		bits := head("\x0a\xbc\xde\xff", length)
		for _, hop := range []int{math.MinInt, -65536, -1, 65536, 1 << 32, math.MaxInt} {
			check(t, f, insert(api.Four, bits, length, hop), api.ErrHop, 0)
			checkModel(t, f, newModel())
		}
		for _, hop := range []int{0, 1, 255, 256, 65535} {
			check(t, f, insert(api.Four, bits, length, hop), api.OK, 0)
			check(t, f, lookup(api.Four, bits), api.OK, hop)
			checkDump(t, f, api.Four, route(bits, length, hop))
		}
		check(t, f, insert(api.Four, bits, length, 65536), api.ErrHop, 0)
		check(t, f, lookup(api.Four, bits), api.OK, 65535)
		check(t, f, remove(api.Four, bits, length), api.OK, 0)
	}
}

// TestP5FamiliesAreApart: a prefix of one family is none of the other.
func TestP5FamiliesAreApart(t *testing.T) {
	for length := range 33 {
		f := newFib(t, api.MinWords)
		bits := head("\xa5\xa5\xa5\xa5", length)
		check(t, f, insert(api.Four, bits, length, 4), api.OK, 0)
		check(t, f, lookup(api.Six, six(bits)), api.ErrNone, 0)
		check(t, f, remove(api.Six, six(bits), length), api.ErrNone, 0)
		check(t, f, insert(api.Six, six(bits), length, 6), api.OK, 0)
		check(t, f, lookup(api.Four, bits), api.OK, 4)
		check(t, f, lookup(api.Six, six(bits)), api.OK, 6)
		check(t, f, remove(api.Four, bits, length), api.OK, 0)
		checkDump(t, f, api.Four)
		checkDump(t, f, api.Six, route(six(bits), length, 6))
	}
}

// P6

func TestP6Twice(t *testing.T) {
	f := newFib(t, api.MinWords)
	for _, length := range []int{0, 1, 7, 8, 11, 12, 31, 32, 64, 127, 128} {
		bits := head(strings.Repeat("\xc3", 16), length)
		check(t, f, remove(api.Six, bits, length), api.ErrNone, 0)
		check(t, f, insert(api.Six, bits, length, 1), api.OK, 0)
		check(t, f, insert(api.Six, bits, length, 2), api.OK, 0)
		gone := remove(api.Six, bits, length)
		gone.Hop = -1
		check(t, f, gone, api.OK, 0)
		check(t, f, gone, api.ErrNone, 0)
		check(t, f, lookup(api.Six, bits), api.ErrNone, 0)
		checkModel(t, f, newModel())
	}
}

func TestP6WrongInput(t *testing.T) {
	f := newFib(t, api.MinWords)
	check(t, f, insert(api.Four, "\x00\x00\x00\x00", 0, 1), api.OK, 0)
	check(t, f, insert(api.Four, "\x0a\x00\x00\x00", 8, 2), api.OK, 0)
	check(t, f, remove(api.Four, "\x00\x00\x00\x00", -1), api.ErrLen, 0)
	check(t, f, remove(api.Four, "\x00\x00\x00\x00", 33), api.ErrLen, 0)
	check(t, f, remove(api.Six, six(""), 129), api.ErrLen, 0)
	check(t, f, remove(api.Four, "\x00\x00\x00", 0), api.ErrBits, 0)
	check(t, f, remove(api.Four, six(""), 0), api.ErrBits, 0)
	check(t, f, remove(api.Four, "\x0a\x00\x00\x01", 8), api.ErrBits, 0)
	check(t, f, remove(api.Four, "\x0a\x00\x00\x00", 6), api.ErrBits, 0)
	for _, length := range []int{7, 9, 11, 12, 16, 32} {
		check(t, f, remove(api.Four, "\x0a\x00\x00\x00", length), api.ErrNone, 0)
	}
	checkDump(t, f, api.Four, route("\x00\x00\x00\x00", 0, 1), route("\x0a\x00\x00\x00", 8, 2))
}

// P7

func TestP7Reads(t *testing.T) {
	for _, c := range []struct{ family, size, most int }{{api.Four, 4, 9}, {api.Six, 16, 33}} {
		f := newFib(t, api.MaxWords)
		address := strings.Repeat("\x96", c.size)
		if a := f.Run(lookup(c.family, address))[0]; a != (api.Answer{Err: api.ErrNone, Reads: 1}) {
			t.Errorf("of an empty table: %#v", a)
		}
		check(t, f, insert(c.family, address, 8*c.size, 1), api.OK, 0)
		if a := f.Run(lookup(c.family, address))[0]; a != (api.Answer{Hop: 1, Reads: c.most}) {
			t.Errorf("of all bits: %#v", a)
		}
		check(t, f, lookup(c.family, flip(address, 8*c.size-1)), api.ErrNone, 0)
		check(t, f, insert(c.family, head(address, 7), 7, 2), api.OK, 0)
		check(t, f, lookup(c.family, flip(address, 8*c.size-1)), api.OK, 2)
	}
}

func TestP7NoMatterOfLenAndHop(t *testing.T) {
	f := newFib(t, api.MinWords)
	check(t, f, insert(api.Four, "\x0a\x00\x00\x00", 8, 7), api.OK, 0)
	for _, n := range []int{math.MinInt, -1, 0, 33, 65536, math.MaxInt} {
		op := api.Op{Code: api.Lookup, Family: api.Four, Bits: "\x0a\xff\xff\xff", Len: n, Hop: n}
		check(t, f, op, api.OK, 7)
		op.Bits = "\x0b\xff\xff\xff"
		check(t, f, op, api.ErrNone, 0)
	}
}

func TestP7NumberOfBytes(t *testing.T) {
	f := newFib(t, api.MinWords)
	check(t, f, insert(api.Four, "\x00\x00\x00\x00", 0, 1), api.OK, 0)
	check(t, f, insert(api.Six, six(""), 0, 1), api.OK, 0)
	for size := range 300 {
		for family, right := range map[int]int{api.Four: 4, api.Six: 16} {
			if size == right {
				check(t, f, lookup(family, string(make([]byte, size))), api.OK, 1)
			} else {
				check(t, f, lookup(family, string(make([]byte, size))), api.ErrBits, 0)
			}
		}
	}
}

// TestP7InOneAnother: a prefix of each length of one address; what fits in less finds the longest that does.
func TestP7InOneAnother(t *testing.T) {
	r := rand.New(rand.NewSource(17))
	for _, c := range []struct{ family, size int }{{api.Four, 4}, {api.Six, 16}} {
		for _, fill := range []string{"\x00", "\xff", "\x69"} {
			f := newFib(t, api.MaxWords)
			address, bits := strings.Repeat(fill, c.size), 8*c.size
			order := r.Perm(bits + 1)
			for _, n := range order {
				check(t, f, insert(c.family, head(address, n), n, 100+n), api.OK, 0)
			}
			for n := range bits {
				check(t, f, lookup(c.family, flip(address, n)), api.OK, 100+n)
			}
			check(t, f, lookup(c.family, address), api.OK, 100+bits)
			for n := bits; n > 0; n-- {
				check(t, f, remove(c.family, head(address, n), n), api.OK, 0)
				check(t, f, lookup(c.family, address), api.OK, 100+n-1)
			}
		}
	}
}

// P9

func TestP9Order(t *testing.T) {
	f := newFib(t, api.MaxWords)
	r := rand.New(rand.NewSource(19))
	var want []api.Route
	for _, length := range []int{0, 1, 7, 8, 9, 11, 12, 16, 31, 32} {
		want = append(want, route("\x00\x00\x00\x00", length, length))
	}
	want = append(want,
		route("\x00\x00\x00\x01", 32, 1),
		route("\x00\x00\x10\x00", 20, 2),
		route("\x01\x00\x00\x00", 8, 3),
		route("\x02\x00\x00\x00", 7, 4),
		route("\x02\x00\x00\x00", 8, 5),
		route("\x7f\xff\xff\xff", 32, 6),
		route("\x80\x00\x00\x00", 1, 7),
		route("\x80\x00\x00\x00", 9, 8),
		route("\xc0\x00\x00\x00", 2, 9),
		route("\xff\x00\x00\x00", 8, 10),
		route("\xff\xff\xff\xfe", 31, 11),
		route("\xff\xff\xff\xff", 32, 12),
	)
	for _, i := range r.Perm(len(want)) {
		check(t, f, insert(api.Four, want[i].Bits, want[i].Len, want[i].Hop), api.OK, 0)
	}
	checkDump(t, f, api.Four, want...)
	checkDump(t, f, api.Six)
}

func TestP9NoFamily(t *testing.T) {
	f := newFib(t, api.MinWords)
	check(t, f, insert(api.Four, "\x00\x00\x00\x00", 0, 1), api.OK, 0)
	check(t, f, insert(api.Six, six(""), 0, 1), api.OK, 0)
	for _, family := range []int{math.MinInt, -4, 0, 1, 3, 5, 7, 16, math.MaxInt} {
		checkDump(t, f, family)
	}
}

// The document's example.
func TestExample(t *testing.T) {
	f := newFib(t, 2048)
	check(t, f, insert(api.Four, "\x0a\x00\x00\x00", 8, 1), api.OK, 0)
	check(t, f, insert(api.Four, "\x0a\x01\x00\x00", 16, 2), api.OK, 0)
	check(t, f, insert(api.Four, "\x00\x00\x00\x00", 0, 9), api.OK, 0)
	check(t, f, lookup(api.Four, "\x0a\x01\x02\x03"), api.OK, 2)
	check(t, f, lookup(api.Four, "\x0a\x02\x00\x00"), api.OK, 1)
	check(t, f, lookup(api.Four, "\x0b\x00\x00\x00"), api.OK, 9)
	check(t, f, lookup(api.Six, six("\x0a")), api.ErrNone, 0)
	check(t, f, remove(api.Four, "\x0a\x01\x00\x00", 16), api.OK, 0)
	check(t, f, remove(api.Four, "\x0a\x01\x00\x00", 16), api.ErrNone, 0)
	check(t, f, lookup(api.Four, "\x0a\x01\x02\x03"), api.OK, 1)
	check(t, f, insert(api.Four, "\x0a\x00\x00\x01", 31, 3), api.ErrBits, 0)
	check(t, f, insert(api.Four, "\x0a\x00\x00\x01", 32, 3), api.OK, 0)
	checkDump(t, f, api.Four, route("\x00\x00\x00\x00", 0, 9), route("\x0a\x00\x00\x00", 8, 1), route("\x0a\x00\x00\x01", 32, 3))
}
