package trie

// key is the bytes of an address or a prefix. There is one byte more than the longest address has, as the node behind its last bit asks for four bits too.
type key [17]byte

func keyOf(bits string) key {
	var k key
	copy(k[:], bits)
	return k
}

// four tells the four bits by which a node of that depth goes on.
func (k key) four(depth int) int {
	b := int(k[1+depth/2])
	if depth%2 == 0 {
		return b >> 4
	}
	return b & 15
}

// with is the key with other bits where a node of that depth goes on.
func (k key) with(depth, four int) key {
	i := 1 + depth/2
	if depth%2 == 0 {
		k[i] = k[i]&15 | byte(four<<4)
	} else {
		k[i] = k[i]&^15 | byte(four)
	}
	return k
}

type prefix struct {
	key    key
	length int
}

// short: it ends within the first byte, and so above all nodes.
func (p prefix) short() bool { return p.length < firstBits }

// depth is that of the node where the prefix ends.
func (p prefix) depth() int { return (p.length - firstBits) / stepBits }

// number is that of the prefix among those that end in its node.
func (p prefix) number() int {
	further := (p.length - firstBits) % stepBits
	return numberOf(further, p.key.four(p.depth())>>(stepBits-further))
}

// numberOf numbers the prefixes of some further bits: the one of no bit, the two of one, the four of two, and so on, so that of those that fit an address the longest has the highest number.
func numberOf(further, value int) int { return 1<<further - 1 + value }
