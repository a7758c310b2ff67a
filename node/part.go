package node

import (
	"slices"
	"strings"

	"icehouse/api"
)

// ahead is how many values are ahead of the key at, in the order in which a tree is gone through: of a leaf its own isn't, of another node the child beneath it is.
func ahead(n api.Node, at int) int {
	if n.Leaf {
		return at
	}
	return at + 1
}

// fits: has it as many values as its keys ask for?
func fits(n api.Node) bool { return len(n.Vals) == ahead(n, len(n.Keys)) }

// front is how many keys from the front on are so.
func front(n api.Node, so func(key string) bool) int {
	at := slices.IndexFunc(n.Keys, func(key string) bool { return !so(key) })
	if at < 0 {
		return len(n.Keys)
	}
	return at
}

// part is a node of keys and values, with memory of its own.
func part(leaf bool, keys []string, vals []int) api.Node {
	// Not slices.Clone: of no values that is a piece of what was handed in.
	return api.Node{Leaf: leaf, Keys: texts(keys), Vals: slices.Concat(vals)}
}

// texts are lists, one behind the other, each text a copy: a piece would hold on to what it is a piece of.
func texts(ls ...[]string) []string {
	l := slices.Concat(ls...)
	for i, s := range l {
		l[i] = strings.Clone(s)
	}
	return l
}
