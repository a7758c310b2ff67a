package node

import (
	"fmt"
	"maps"
	"math/rand"
	"slices"
	"testing"

	"icehouse/api"
)

// meant are a node's octets, as the chapter's words have them, be it right or not.
func meant(n api.Node) []byte {
	b := []byte{2}
	if n.Leaf {
		b = []byte{1}
	}
	b = append(b, byte(len(n.Keys)))
	for _, key := range n.Keys {
		b = append(append(b, byte(len(key))), key...)
	}
	for _, v := range n.Vals {
		b = append(b, byte(v/(1<<32)), byte(v/(1<<24)), byte(v/(1<<16)), byte(v/(1<<8)), byte(v))
	}
	return b
}

// isKey: has it 1 to 100 octets?
func isKey(s string) bool { return s != "" && len(s) < 101 }

// isNode goes through octets as the chapter's words have them: which right node's are they?
func isNode(b []byte) (api.Node, bool) {
	if len(b) < 2 || b[0] < 1 || b[0] > 2 || b[1] > 4 || b[0] == 2 && b[1] == 0 {
		return api.Node{}, false
	}
	n := api.Node{Leaf: b[0] == 1}
	values := int(b[1]) + int(b[0]) - 1
	last := ""
	for rest := b[2:]; ; rest = rest[5:] {
		for len(n.Keys) < int(b[1]) {
			if len(rest) == 0 || len(rest) <= int(rest[0]) {
				return api.Node{}, false
			}
			key := string(rest[1 : 1+rest[0]])
			if !isKey(key) || key <= last {
				return api.Node{}, false
			}
			last, rest = key, rest[1+rest[0]:]
			n.Keys = append(n.Keys, key)
		}
		if len(n.Vals) == values {
			return n, len(rest) == 0
		}
		if len(rest) < 5 {
			return api.Node{}, false
		}
		v := 0
		for i := range 5 {
			v = v*256 + int(rest[i])
		}
		n.Vals = append(n.Vals, v)
	}
}

// wantUnpack: octets are read, if they are a node's; and are then its octets.
func wantUnpack(t *testing.T, b []byte) {
	t.Helper()
	n, ok := isNode(b)
	if !ok {
		wantNoNode(t, b)
		return
	}
	wantOctets(t, n, string(b))
}

// as is how many values a right node of a sort has to so many keys.
func as(leaf bool, keys int) int {
	if leaf {
		return keys
	}
	return 1 + keys
}

// inserted, as the chapter's words have it.
func inserted(n api.Node, at int, key string, vals ...int) api.Node {
	if len(n.Vals) != as(n.Leaf, len(n.Keys)) || at < 0 || at > len(n.Keys) {
		return n
	}
	m := api.Node{Leaf: n.Leaf}
	for i := range len(n.Keys) + 1 {
		if i == at {
			m.Keys = append(m.Keys, key)
			m.Vals = append(m.Vals, vals...)
		}
		if i < len(n.Keys) {
			m.Keys = append(m.Keys, n.Keys[i])
		}
		// In place of the value at: not of a leaf.
		if i < len(n.Vals) && (i != at || n.Leaf) {
			m.Vals = append(m.Vals, n.Vals[i])
		}
	}
	return m
}

// removed, as the chapter's words have it.
func removed(n api.Node, at int) api.Node {
	if len(n.Vals) != as(n.Leaf, len(n.Keys)) || at < 0 || at >= len(n.Keys) {
		return n
	}
	m := api.Node{Leaf: n.Leaf}
	for i, key := range n.Keys {
		if i != at {
			m.Keys = append(m.Keys, key)
		}
	}
	for i, v := range n.Vals {
		if n.Leaf && i != at || !n.Leaf && i != at+1 {
			m.Vals = append(m.Vals, v)
		}
	}
	return m
}

// halves, as the chapter's words have them.
func halves(n api.Node) (a api.Node, middle string, b api.Node) {
	a.Leaf, b.Leaf = n.Leaf, n.Leaf
	count := len(n.Keys)
	if count < 2 || len(n.Vals) != as(n.Leaf, count) {
		return n, "", b
	}
	// A leaf's smaller half, and the keys ahead of another node's middle one, are as many.
	half := (count - count%2) / 2
	for i, key := range n.Keys {
		if i < half {
			a.Keys = append(a.Keys, key)
		} else if i > half || n.Leaf {
			b.Keys = append(b.Keys, key)
		}
	}
	for i, v := range n.Vals {
		if i < half || i == half && !n.Leaf {
			a.Vals = append(a.Vals, v)
		} else {
			b.Vals = append(b.Vals, v)
		}
	}
	return a, n.Keys[half], b
}

// merged, as the chapter's words have it.
func merged(a api.Node, key string, b api.Node) api.Node {
	m := api.Node{Leaf: a.Leaf}
	m.Keys = append(m.Keys, a.Keys...)
	if !a.Leaf {
		m.Keys = append(m.Keys, key)
	}
	m.Keys = append(m.Keys, b.Keys...)
	m.Vals = append(append(m.Vals, a.Vals...), b.Vals...)
	return m
}

// text tells of a node all that there is, so that a fault is found by it.
func text(n api.Node) string { return fmt.Sprintf("%v %q %v", n.Leaf, n.Keys, n.Vals) }

// wantAll: of this node all calls answer what the chapter's words have.
func wantAll(t *testing.T, n api.Node, at int, key string, vals ...int) {
	t.Helper()
	if got, want := Insert(n, at, key, vals...), inserted(n, at, key, vals...); !same(got, want) {
		t.Errorf("Insert(%s, %d, %q, %v) is %s, not %s", text(n), at, key, vals, text(got), text(want))
	}
	if got, want := Remove(n, at), removed(n, at); !same(got, want) {
		t.Errorf("Remove(%s, %d) is %s, not %s", text(n), at, text(got), text(want))
	}
	a, k, b := Split(n)
	if c, l, d := halves(n); !same(a, c) || k != l || !same(b, d) {
		t.Errorf("Split(%s) is %s, %q, %s", text(n), text(a), k, text(b))
	}
	if len(n.Keys) > 1 && len(n.Vals) == as(n.Leaf, len(n.Keys)) {
		if m := Merge(a, k, b); !same(m, n) {
			t.Errorf("Merge of %s, %q, %s is %s, not %s", text(a), k, text(b), text(m), text(n))
		}
	}
}

// listsOf are all lists of up to so many keys.
func listsOf(most int, keys ...string) [][]string {
	l := [][]string{nil}
	// Each that isn't too long makes longer ones, which are gone through then.
	for i := 0; i < len(l); i++ {
		for _, key := range keys {
			if len(l[i]) < most {
				l = append(l, append(slices.Clone(l[i]), key))
			}
		}
	}
	return l
}

// small are nodes of up to so many keys, whatever they be, with up to so many values.
func small(keys, values int) []api.Node {
	var l []api.Node
	for _, ks := range listsOf(keys, "", "a", "b") {
		for count := range values + 1 {
			var vals []int
			for v := range count {
				vals = append(vals, 10+v)
			}
			l = append(l, of(true, ks, vals...), of(false, ks, vals...))
		}
	}
	return l
}

// Of P17.2, P17.3, P17.4: of small nodes whatever can be asked, right or not.
func TestAllOfSmall(t *testing.T) {
	nodes := small(4, 6)
	if len(nodes) != 121*7*2 {
		t.Fatalf("there are %d nodes", len(nodes))
	}
	for _, n := range nodes {
		for at := -2; at < 7; at++ {
			for _, vals := range [][]int{nil, {1}, {1, 2}, {1, 2, 3}} {
				wantAll(t, n, at, "k", vals...)
			}
			wantAll(t, n, at, "", 7)
		}
		for _, key := range []string{"", "a", "aa", "b", "c"} {
			less, upTo := 0, 0
			for less < len(n.Keys) && n.Keys[less] < key {
				less++
			}
			for upTo < len(n.Keys) && n.Keys[upTo] <= key {
				upTo++
			}
			wantFind(t, n, key, less, less < len(n.Keys) && n.Keys[less] == key)
			wantChild(t, n, key, upTo)
		}
	}
}

// Of P17.3: of small nodes all pairs, of one sort or of two.
func TestMergeOfSmall(t *testing.T) {
	nodes := small(2, 4)
	for _, a := range nodes {
		for _, b := range nodes {
			for _, key := range []string{"", "k"} {
				if got, want := Merge(a, key, b), merged(a, key, b); !same(got, want) {
					t.Fatalf("Merge(%s, %q, %s) is %s, not %s", text(a), key, text(b), text(got), text(want))
				}
			}
		}
	}
}

// Of P17.1, P17.4: of all short octets those that are a node's are read.
func TestUnpackOfShort(t *testing.T) {
	var b []byte
	var rest func(n int, among ...byte)
	rest = func(n int, among ...byte) {
		wantUnpack(t, b)
		if n == 0 {
			return
		}
		for _, c := range among {
			b = append(b, c)
			rest(n-1, among...)
			b = b[:len(b)-1]
		}
	}
	rest(3, 0, 1, 2, 3, 4, 5, 100, 101, 255)
	rest(10, 0, 1, 2)
	for _, front := range []string{"\x02\x01\x01\x01\x00\x00\x00", "\x01\x02\x01\x01\x01\x01\x00\x00", "\x02\x02\x01\x00\x00\x00\x00\x00\x00"} {
		b = []byte(front)
		rest(10, 0, 1)
	}
}

// anyNode is one without a rule: of keys and values that need not be right, but mostly as many as they ask for.
func anyNode(random *rand.Rand, most int) api.Node {
	n := api.Node{Leaf: random.Intn(2) == 0}
	for range random.Intn(most + 1) {
		n.Keys = append(n.Keys, fmt.Sprint(random.Intn(2*most)))
	}
	for range as(n.Leaf, len(n.Keys)) {
		n.Vals = append(n.Vals, random.Intn(1000)-1)
	}
	if random.Intn(8) == 0 {
		n.Vals = n.Vals[:random.Intn(len(n.Vals)+1)]
	}
	return n
}

// Of P17.3, P17.4: nodes need not have few keys.
func TestAllOfMany(t *testing.T) {
	random := rand.New(rand.NewSource(17))
	for range 20000 {
		n, m := anyNode(random, 40), anyNode(random, 40)
		at, key := random.Intn(50)-4, fmt.Sprint(random.Intn(80))
		wantAll(t, n, at, key, m.Vals[:min(random.Intn(3), len(m.Vals))]...)
		if got, want := Merge(n, key, m), merged(n, key, m); !same(got, want) {
			t.Fatalf("Merge(%s, %q, %s) is %s, not %s", text(n), key, text(m), text(got), text(want))
		}
	}
	for range 20 {
		n := anyNode(random, 5000)
		for range 10 {
			wantAll(t, n, random.Intn(len(n.Keys)+1), "k", 1, 2)
		}
	}
}

// Of P17.2, P17.3: a leaf into which is put what Find says, and out of which is taken what it finds, is as a map.
func TestLeafAsMap(t *testing.T) {
	random := rand.New(rand.NewSource(3))
	for range 50 {
		n, m := api.Node{Leaf: true}, map[string]int{}
		for v := range 300 {
			key := fmt.Sprint(random.Intn(60))
			at, there := Find(n, key)
			if _, want := m[key]; there != want {
				t.Fatalf("Find(%s, %s) is %v", text(n), key, there)
			}
			if there {
				n = Remove(n, at)
				delete(m, key)
			} else {
				n = Insert(n, at, key, v)
				m[key] = v
			}
			if len(n.Keys) > 1 && random.Intn(4) == 0 {
				a, k, b := Split(n)
				n = Merge(a, k, b)
			}
			keys := slices.Sorted(maps.Keys(m))
			if !slices.Equal(n.Keys, keys) || len(n.Vals) != len(keys) {
				t.Fatalf("there is %s, not %q", text(n), keys)
			}
			for i, key := range keys {
				if n.Vals[i] != m[key] {
					t.Fatalf("%s has %d, not %d", key, n.Vals[i], m[key])
				}
			}
		}
	}
}
