package node

import (
	"slices"
	"strings"
	"testing"
	"unsafe"

	"icehouse/api"
)

// A stretch of memory: from one octet on, so many.
type stretch struct {
	from, size uintptr
}

func (s stretch) over(o stretch) bool {
	return s.size > 0 && o.size > 0 && s.from < o.from+o.size && o.from < s.from+s.size
}

func ofText(s string) stretch {
	return stretch{uintptr(unsafe.Pointer(unsafe.StringData(s))), uintptr(len(s))}
}

func ofList[T any](l []T) stretch {
	var one T
	return stretch{uintptr(unsafe.Pointer(unsafe.SliceData(l))), unsafe.Sizeof(one) * uintptr(cap(l))}
}

// memory are all stretches that a node has, with its lists' spare room.
func memory(n api.Node) []stretch {
	l := []stretch{ofList(n.Keys), ofList(n.Vals)}
	for _, key := range n.Keys[:cap(n.Keys)] {
		l = append(l, ofText(key))
	}
	return l
}

// wantApart: none of what one has is another's.
func wantApart(t *testing.T, what string, ls ...[]stretch) {
	t.Helper()
	for i, l := range ls {
		for _, others := range ls[:i] {
			for _, a := range l {
				if slices.ContainsFunc(others, a.over) {
					t.Fatalf("%s: memory is shared", what)
				}
			}
		}
	}
}

// roomy is a node of so many keys whose lists have room behind them, with others there. Its texts are no constants.
func roomy(leaf bool, keys int) api.Node {
	n := api.Node{Leaf: leaf}
	for i := range keys + 6 {
		n.Keys = append(n.Keys, strings.Repeat(string(rune('a'+i)), 2))
		n.Vals = append(n.Vals, i)
	}
	n.Keys, n.Vals = n.Keys[:keys], n.Vals[:as(leaf, keys)]
	return n
}

// room is a copy of a node with all that is behind its lists.
func room(n api.Node) api.Node {
	return api.Node{Leaf: n.Leaf, Keys: slices.Clone(n.Keys[:cap(n.Keys)]), Vals: slices.Clone(n.Vals[:cap(n.Vals)])}
}

// spoil changes a node's lists, with their spare room.
func spoil(n api.Node) {
	for i := range n.Keys[:cap(n.Keys)] {
		n.Keys[:cap(n.Keys)][i] = "spoiled"
	}
	for i := range n.Vals[:cap(n.Vals)] {
		n.Vals[:cap(n.Vals)][i] = -7
	}
}

// answers are what all calls that answer nodes make of one, at a place.
func answers(n api.Node, at int, key string, vals []int) []api.Node {
	a, _, b := Split(n)
	return []api.Node{Insert(n, at, key, vals...), Remove(n, at), a, b, Merge(n, key, n)}
}

// Of P17.4: what is handed in isn't changed, nor the room behind it; no answer shares memory with it, nor with another one, nor one list of it with another.
func TestNewMemory(t *testing.T) {
	for _, leaf := range []bool{true, false} {
		for keys := range 7 {
			for at := -1; at <= keys+1; at++ {
				n, vals, key := roomy(leaf, keys), make([]int, 2, 9), strings.Repeat("x", 3)
				was, text := room(n), strings.Clone(key)
				first, again := answers(n, at, key, vals), answers(n, at, key, vals)
				ls := [][]stretch{memory(n), {ofList(vals), ofText(key)}}
				for _, l := range [][]api.Node{first, again} {
					for _, m := range l {
						for _, s := range memory(m) {
							ls = append(ls, []stretch{s})
						}
					}
				}
				wantApart(t, "nodes", ls...)
				if !same(room(n), was) || key != text || !slices.Equal(vals[:9], make([]int, 9)) {
					t.Fatalf("what was handed in became %v, %q, %v", room(n), key, vals[:9])
				}
				for _, m := range first {
					spoil(m)
				}
				spoil(n)
				clear(vals[:9])
				if got := answers(of(leaf, was.Keys[:keys], was.Vals[:as(leaf, keys)]...), at, text, make([]int, 2)); !slices.EqualFunc(again, got, same) {
					t.Fatalf("answers became %v, not %v", again, got)
				}
			}
		}
	}
}

// Of P17.4: the node itself is new memory, too, of nodes with other values as well.
func TestNewMemoryOfItself(t *testing.T) {
	for _, n := range append(others(), roomy(true, 1), roomy(false, 1), roomy(true, 0), roomy(false, 0)) {
		a, _, b := Split(n)
		l := [][]stretch{memory(n), memory(a), memory(b), memory(Insert(n, -1, "x", 1)), memory(Remove(n, -1)), memory(Insert(n, 9, "x", 1)), memory(Remove(n, 9))}
		wantApart(t, text(n), l...)
	}
	// An empty list that has room keeps none of it.
	vals := make([]int, 0, 8)
	n := api.Node{Leaf: true, Keys: make([]string, 0, 8), Vals: vals}
	m := Remove(n, 3)
	_ = append(m.Keys, "a")
	_ = append(m.Vals, 5)
	if vals[:1][0] != 0 || n.Keys[:1][0] != "" {
		t.Errorf("the room became %v, %q", vals[:1], n.Keys[:1])
	}
}

// Of P17.4: the key between is a text of its own.
func TestNewMemoryOfKey(t *testing.T) {
	for _, leaf := range []bool{true, false} {
		n := roomy(leaf, 5)
		a, key, b := Split(n)
		wantApart(t, "Split", memory(n), memory(a), []stretch{ofText(key)}, memory(b))
	}
}

// Of P17.4: what Pack and Unpack answer is new memory, and what they are handed stays as it is.
func TestNewMemoryOfOctets(t *testing.T) {
	for _, n := range []api.Node{roomy(true, 0), roomy(true, 1), roomy(false, 1), roomy(true, 4), roomy(false, 4)} {
		was := room(n)
		b, _ := Pack(n)
		c, _ := Pack(n)
		m, _ := Unpack(b)
		o, e := Unpack(b)
		wantApart(t, "octets", memory(n), []stretch{ofList(b)}, []stretch{ofList(c)}, memory(m), memory(o))
		if !same(room(n), was) || !slices.Equal(b, c) || e != api.OK {
			t.Fatalf("what was handed in became %v, %x", room(n), b)
		}
		spoil(m)
		clear(b[:cap(b)])
		if !same(o, n) || !slices.Equal(c, meant(n)) {
			t.Fatalf("answers became %v, %x", o, c)
		}
	}
	// Wrong ones aren't changed either.
	for _, n := range others() {
		was := room(n)
		b := meant(n)
		Pack(n)
		Right(n)
		Find(n, "a")
		Child(n, "a")
		Unpack(b)
		if !same(room(n), was) || !slices.Equal(b, meant(n)) {
			t.Fatalf("what was handed in became %v, %x", room(n), b)
		}
	}
}
