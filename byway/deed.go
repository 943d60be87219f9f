package byway

import (
	"byway/api"
	"byway/trie"
)

// deed is what an operation is to do. It is done only if it has no fault.
type deed interface {
	do(t *trie.Tables) api.Answer
}

type insertion struct {
	family int
	route  api.Route
}

type deletion struct {
	family, length int
	bits           string
}

type lookup struct {
	family  int
	address string
}

type compaction struct{}

// deedOf turns an operation into a deed: none if its code is none.
func deedOf(op api.Op) deed {
	switch op.Code {
	case api.Insert:
		return insertion{op.Family, api.Route{Bits: op.Bits, Len: op.Len, Hop: op.Hop}}
	case api.Delete:
		return deletion{op.Family, op.Len, op.Bits}
	case api.Lookup:
		return lookup{op.Family, op.Bits}
	case api.Compact:
		return compaction{}
	}
	return nil
}

func (d insertion) do(t *trie.Tables) api.Answer {
	if !t.Insert(d.family, d.route) {
		return api.Answer{Err: api.ErrFull}
	}
	return api.Answer{}
}

func (d deletion) do(t *trie.Tables) api.Answer {
	if !t.Delete(d.family, d.bits, d.length) {
		return api.Answer{Err: api.ErrNone}
	}
	return api.Answer{}
}

func (d lookup) do(t *trie.Tables) api.Answer {
	hop, reads, found := t.Lookup(d.family, d.address)
	if !found {
		return api.Answer{Err: api.ErrNone, Reads: reads}
	}
	return api.Answer{Hop: hop, Reads: reads}
}

func (compaction) do(t *trie.Tables) api.Answer {
	t.Compact()
	return api.Answer{}
}
