package byway

import (
	"byway/api"
	"byway/trie"
)

// fault tells what is wrong with a deed, whatever the tables hold.
func fault(d deed) api.Errno {
	switch d := d.(type) {
	case nil:
		return api.ErrCode
	case insertion:
		if e := prefixFault(d.family, d.route.Bits, d.route.Len); e != api.OK {
			return e
		}
		return hopFault(d.route.Hop)
	case deletion:
		return prefixFault(d.family, d.bits, d.length)
	case lookup:
		return addressFault(d.family, d.address)
	}
	return api.OK
}

func prefixFault(family int, bits string, length int) api.Errno {
	size := trie.AddressBytes(family)
	switch {
	case size == 0:
		return api.ErrFamily
	case length < 0 || length > 8*size:
		return api.ErrLen
	case len(bits) != size || !zeroFrom(bits, length):
		return api.ErrBits
	}
	return api.OK
}

func addressFault(family int, address string) api.Errno {
	size := trie.AddressBytes(family)
	switch {
	case size == 0:
		return api.ErrFamily
	case len(address) != size:
		return api.ErrBits
	}
	return api.OK
}

func hopFault(hop int) api.Errno {
	if hop < 0 || hop > api.MaxHop {
		return api.ErrHop
	}
	return api.OK
}

// zeroFrom tells whether all bits from a length on are 0.
func zeroFrom(bits string, length int) bool {
	for i := length / 8; i < len(bits); i++ {
		ahead := max(length-8*i, 0)
		if bits[i]<<ahead != 0 {
			return false
		}
	}
	return true
}
