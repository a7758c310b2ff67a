package node

import "icehouse/api"

const (
	// What a node's octets begin with.
	leafMark  = 1
	otherMark = 2
	// valueSize is how many octets a value has.
	valueSize = 5
)

// octets are those of a node that is right.
func octets(n api.Node) []byte {
	b := []byte{otherMark, byte(len(n.Keys))}
	if n.Leaf {
		b[0] = leafMark
	}
	for _, key := range n.Keys {
		b = append(b, byte(len(key)))
		b = append(b, key...)
	}
	for _, v := range n.Vals {
		for i := range valueSize {
			b = append(b, byte(v>>(8*(valueSize-1-i))))
		}
	}
	return b
}

// read is the node of b, if b is a node's octets; else it is any.
func read(b []byte) api.Node {
	next := pieces(b)
	n := api.Node{Leaf: numeral(next(1)) == leafMark}
	for range numeral(next(1)) {
		n.Keys = append(n.Keys, string(next(numeral(next(1)))))
	}
	for range ahead(n, len(n.Keys)) {
		n.Vals = append(n.Vals, numeral(next(valueSize)))
	}
	return n
}

// pieces is asked for so many octets of b as come next; where there aren't so many, it has all that there are.
func pieces(b []byte) func(size int) []byte {
	return func(size int) []byte {
		size = min(size, len(b))
		piece := b[:size]
		b = b[size:]
		return piece
	}
}

// numeral is the number that octets say, the greatest first.
func numeral(b []byte) int {
	n := 0
	for _, c := range b {
		n = n<<8 | int(c)
	}
	return n
}
