package node

import (
	"math"
	"strings"
	"testing"

	"icehouse/api"
)

func wantNode(t *testing.T, what string, got, want api.Node) {
	t.Helper()
	if !same(got, want) {
		t.Errorf("%s is %s, not %s", what, text(got), text(want))
	}
}

// Of P17.3.
func TestInsert(t *testing.T) {
	n := leaf("bdf", 2, 4, 6)
	for at, want := range []api.Node{leaf("xbdf", 9, 2, 4, 6), leaf("bxdf", 2, 9, 4, 6), leaf("bdxf", 2, 4, 9, 6), leaf("bdfx", 2, 4, 6, 9)} {
		wantNode(t, "Insert", Insert(n, at, "x", 9), want)
	}
	n = inner("bdf", 1, 3, 5, 7)
	for at, want := range []api.Node{inner("xbdf", 8, 9, 3, 5, 7), inner("bxdf", 1, 8, 9, 5, 7), inner("bdxf", 1, 3, 8, 9, 7), inner("bdfx", 1, 3, 5, 8, 9)} {
		wantNode(t, "Insert", Insert(n, at, "x", 8, 9), want)
	}
	wantNode(t, "Insert", Insert(api.Node{Leaf: true}, 0, "a", 1), leaf("a", 1))
	// Without a key there is one child.
	wantNode(t, "Insert", Insert(api.Node{Vals: []int{1}}, 0, "a", 2, 3), inner("a", 2, 3))
	// Neither the key nor the values need be right, nor as many as a node should have.
	long := strings.Repeat("x", 1000)
	wantNode(t, "Insert", Insert(leaf("ab", 1, 2), 1, long, -1), of(true, []string{"a", long, "b"}, 1, -1, 2))
	wantNode(t, "Insert", Insert(leaf("ab", 1, 2), 2, "a", 1<<50), leaf("aba", 1, 2, 1<<50))
	wantNode(t, "Insert", Insert(leaf("ab", 1, 2), 0, ""), of(true, []string{"", "a", "b"}, 1, 2))
	wantNode(t, "Insert", Insert(leaf("ab", 1, 2), 1, "c", 7, 8, 9), leaf("acb", 1, 7, 8, 9, 2))
	wantNode(t, "Insert", Insert(inner("ab", 1, 2, 3), 1, "c"), inner("acb", 1, 3))
	wantNode(t, "Insert", Insert(inner("ab", 1, 2, 3), 2, "c", 7), inner("abc", 1, 2, 7))
	wantNode(t, "Insert", Insert(inner("ab", 1, 2, 3), 0, "c", 7, 8, 9), inner("cab", 7, 8, 9, 2, 3))
	// More keys than a right one has.
	wantNode(t, "Insert", Insert(leaf("abcd", 1, 2, 3, 4), 4, "e", 5), leaf("abcde", 1, 2, 3, 4, 5))
	wantNode(t, "Insert", Insert(inner("abcde", 1, 2, 3, 4, 5, 6), 3, "x", 8, 9), inner("abcxde", 1, 2, 3, 8, 9, 5, 6))
}

// Of P17.3.
func TestRemove(t *testing.T) {
	n := leaf("bdf", 2, 4, 6)
	for at, want := range []api.Node{leaf("df", 4, 6), leaf("bf", 2, 6), leaf("bd", 2, 4)} {
		wantNode(t, "Remove", Remove(n, at), want)
	}
	n = inner("bdf", 1, 3, 5, 7)
	for at, want := range []api.Node{inner("df", 1, 5, 7), inner("bf", 1, 3, 7), inner("bd", 1, 3, 5)} {
		wantNode(t, "Remove", Remove(n, at), want)
	}
	wantNode(t, "Remove", Remove(leaf("a", 1), 0), api.Node{Leaf: true})
	wantNode(t, "Remove", Remove(inner("a", 1, 2), 0), api.Node{Vals: []int{1}})
	wantNode(t, "Remove", Remove(leaf("baabc", 1, 2, 3, 4, 5), 2), leaf("babc", 1, 2, 4, 5))
	wantNode(t, "Remove", Remove(inner("baabc", 1, 2, 3, 4, 5, 6), 4), inner("baab", 1, 2, 3, 4, 5))
}

// others are nodes with other values than a right one of their sort has to their keys.
func others() []api.Node {
	l := []api.Node{{}, {Vals: []int{1, 2}}, {Leaf: true, Vals: []int{1}}, {Leaf: true, Vals: []int{1, 2}}}
	for _, keys := range []string{"a", "ab", "abc", "abcde"} {
		l = append(l, leaf(keys), inner(keys))
		for more := range 4 {
			if more != 0 {
				l = append(l, leaf(keys, make([]int, len(keys)+more)...))
			}
			if more != 1 {
				l = append(l, inner(keys, make([]int, len(keys)+more)...))
			}
		}
		l = append(l, leaf(keys, make([]int, len(keys)-1)...), inner(keys, make([]int, len(keys)-1)...))
	}
	return l
}

// Of P17.3: where at isn't within the keys, or the values are others, it is the node itself.
func TestNodeItself(t *testing.T) {
	far := []int{-1, -2, -1 << 32, 1 << 32, math.MinInt, math.MinInt + 1, math.MaxInt - 1, math.MaxInt}
	for _, n := range []api.Node{{Leaf: true}, {Vals: []int{4}}, leaf("ab", 1, 2), inner("ab", 1, 2, 3), leaf("abcdef", 1, 2, 3, 4, 5, 6), inner("abcdef", 1, 2, 3, 4, 5, 6, 7)} {
		count := len(n.Keys)
		for _, at := range append(far, count+1, count+2) {
			wantNode(t, "Insert", Insert(n, at, "x", 8, 9), n)
			wantNode(t, "Insert", Insert(n, at, "x"), n)
			wantNode(t, "Remove", Remove(n, at), n)
		}
		wantNode(t, "Remove", Remove(n, count), n)
	}
	for _, n := range others() {
		for _, at := range append(far, 0, 1, 2, 3, 4, 5, 6) {
			wantNode(t, "Insert", Insert(n, at, "x", 8, 9), n)
			wantNode(t, "Insert", Insert(n, at, "x"), n)
			wantNode(t, "Remove", Remove(n, at), n)
		}
	}
}

func wantSplit(t *testing.T, n, a api.Node, key string, b api.Node) {
	t.Helper()
	c, k, d := Split(n)
	if !same(c, a) || k != key || !same(d, b) {
		t.Errorf("Split(%s) is %s, %q, %s", text(n), text(c), k, text(d))
	}
	if m := Merge(a, key, b); !same(m, n) {
		t.Errorf("Merge(%s, %q, %s) is %s, not %s", text(a), key, text(b), text(m), text(n))
	}
}

// Of P17.3, P17.4.
func TestSplit(t *testing.T) {
	wantSplit(t, leaf("ab", 1, 2), leaf("a", 1), "b", leaf("b", 2))
	wantSplit(t, leaf("abc", 1, 2, 3), leaf("a", 1), "b", leaf("bc", 2, 3))
	wantSplit(t, leaf("abcd", 1, 2, 3, 4), leaf("ab", 1, 2), "c", leaf("cd", 3, 4))
	wantSplit(t, leaf("abcde", 1, 2, 3, 4, 5), leaf("ab", 1, 2), "c", leaf("cde", 3, 4, 5))
	wantSplit(t, leaf("abcdef", 1, 2, 3, 4, 5, 6), leaf("abc", 1, 2, 3), "d", leaf("def", 4, 5, 6))
	wantSplit(t, inner("ab", 1, 2, 3), inner("a", 1, 2), "b", api.Node{Vals: []int{3}})
	wantSplit(t, inner("abc", 1, 2, 3, 4), inner("a", 1, 2), "b", inner("c", 3, 4))
	wantSplit(t, inner("abcd", 1, 2, 3, 4, 5), inner("ab", 1, 2, 3), "c", inner("d", 4, 5))
	wantSplit(t, inner("abcde", 1, 2, 3, 4, 5, 6), inner("ab", 1, 2, 3), "c", inner("de", 4, 5, 6))
	wantSplit(t, inner("abcdef", 1, 2, 3, 4, 5, 6, 7), inner("abc", 1, 2, 3, 4), "d", inner("ef", 5, 6, 7))
	// By where keys are, not by what they are.
	wantSplit(t, leaf("cbab", 9, 1, -3, 1), leaf("cb", 9, 1), "a", leaf("ab", -3, 1))
	wantSplit(t, of(true, []string{"", ""}, 1, 1), of(true, []string{""}, 1), "", of(true, []string{""}, 1))
	wantSplit(t, of(false, []string{"", "", ""}, 1, 2, 3, 4), of(false, []string{""}, 1, 2), "", of(false, []string{""}, 3, 4))
}

// Of P17.3: one of fewer keys than two, or with other values, isn't split.
func TestNoSplit(t *testing.T) {
	few := []api.Node{{Leaf: true}, {Vals: []int{1}}, leaf("a", 1), inner("a", 1, 2)}
	for _, n := range append(few, others()...) {
		a, key, b := Split(n)
		if !same(a, n) || key != "" || !same(b, api.Node{Leaf: n.Leaf}) {
			t.Errorf("Split(%s) is %s, %q, %s", text(n), text(a), key, text(b))
		}
	}
}

// Of P17.3.
func TestMerge(t *testing.T) {
	wantNode(t, "Merge", Merge(leaf("ab", 1, 2), "x", leaf("cd", 3, 4)), leaf("abcd", 1, 2, 3, 4))
	wantNode(t, "Merge", Merge(inner("ab", 1, 2, 3), "x", inner("cd", 4, 5, 6)), inner("abxcd", 1, 2, 3, 4, 5, 6))
	wantNode(t, "Merge", Merge(inner("b", 1, 2), "", inner("a", 3, 4)), of(false, []string{"b", "", "a"}, 1, 2, 3, 4))
	wantNode(t, "Merge", Merge(leaf("b", 1), "", leaf("a", 3)), leaf("ba", 1, 3))
	// Of nodes without keys.
	wantNode(t, "Merge", Merge(api.Node{Leaf: true}, "x", api.Node{Leaf: true}), api.Node{Leaf: true})
	wantNode(t, "Merge", Merge(leaf("a", 1), "x", api.Node{Leaf: true}), leaf("a", 1))
	wantNode(t, "Merge", Merge(api.Node{Leaf: true}, "x", leaf("a", 1)), leaf("a", 1))
	wantNode(t, "Merge", Merge(api.Node{Vals: []int{1}}, "x", api.Node{Vals: []int{2}}), inner("x", 1, 2))
	wantNode(t, "Merge", Merge(inner("a", 1, 2), "x", api.Node{Vals: []int{3}}), inner("ax", 1, 2, 3))
	// Of two sorts: it is of the first one's.
	wantNode(t, "Merge", Merge(leaf("a", 1), "x", inner("b", 2, 3)), leaf("ab", 1, 2, 3))
	wantNode(t, "Merge", Merge(inner("a", 1, 2), "x", leaf("b", 3)), inner("axb", 1, 2, 3))
	// Of one with itself.
	n := inner("ab", 1, 2, 3)
	wantNode(t, "Merge", Merge(n, "c", n), inner("abcab", 1, 2, 3, 1, 2, 3))
}
