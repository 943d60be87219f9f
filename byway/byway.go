// Package byway: two tables of routes in one arena: see DOC.md.
package byway

import (
	"byway/api"
	"byway/trie"
)

// Fib is two tables in an arena.
type Fib struct {
	tables *trie.Tables
}

// New makes two empty tables in an arena of so many words (P3).
func New(words int) (*Fib, api.Errno) {
	if words < api.MinWords || words > api.MaxWords {
		return nil, api.ErrArena
	}
	return &Fib{tables: trie.New(words)}, api.OK
}

// Run does some operations, one after the other (P4 to P8, P10).
func (f *Fib) Run(ops ...api.Op) []api.Answer {
	answers := make([]api.Answer, len(ops))
	for i, op := range ops {
		answers[i] = f.answer(op)
	}
	return answers
}

func (f *Fib) answer(op api.Op) api.Answer {
	d := deedOf(op)
	if e := fault(d); e != api.OK {
		return api.Answer{Err: e}
	}
	return d.do(f.tables)
}

// Dump tells all routes of a family (P9).
func (f *Fib) Dump(family int) []api.Route {
	if trie.AddressBytes(family) == 0 {
		return nil
	}
	return f.tables.Dump(family)
}

// Free tells how many words of the arena are not used (P10).
func (f *Fib) Free() int { return f.tables.Free() }
