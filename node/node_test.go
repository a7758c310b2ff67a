package node

import (
	"bytes"
	"math"
	"slices"
	"strings"
	"testing"

	"icehouse/api"
)

// leaf is one whose keys are single octets.
func leaf(keys string, vals ...int) api.Node {
	return api.Node{Leaf: true, Keys: strings.Split(keys, ""), Vals: vals}
}

// inner is a node with children, whose keys are single octets.
func inner(keys string, vals ...int) api.Node {
	return api.Node{Keys: strings.Split(keys, ""), Vals: vals}
}

// of is a node of any keys.
func of(leaf bool, keys []string, vals ...int) api.Node {
	return api.Node{Leaf: leaf, Keys: keys, Vals: vals}
}

func same(a, b api.Node) bool {
	return a.Leaf == b.Leaf && slices.Equal(a.Keys, b.Keys) && slices.Equal(a.Vals, b.Vals)
}

// wantOctets: the node is right, and these are its octets.
func wantOctets(t *testing.T, n api.Node, want string) {
	t.Helper()
	if !Right(n) {
		t.Errorf("%v isn't right", n)
	}
	b, e := Pack(n)
	if string(b) != want || e != api.OK {
		t.Errorf("Pack(%v) is %x, %d, not %x", n, b, e, want)
	}
	got, e := Unpack([]byte(want))
	if !same(got, n) || e != api.OK {
		t.Errorf("Unpack(%x) is %v, %d, not %v", want, got, e, n)
	}
}

func wantWrong(t *testing.T, n api.Node) {
	t.Helper()
	if Right(n) {
		t.Errorf("%v is right", n)
	}
	if b, e := Pack(n); b != nil || e != api.ErrForm {
		t.Errorf("Pack(%v) is %x, %d", n, b, e)
	}
}

func wantNoNode(t *testing.T, b []byte) {
	t.Helper()
	if n, e := Unpack(b); n.Leaf || n.Keys != nil || n.Vals != nil || e != api.ErrForm {
		t.Errorf("Unpack(%x) is %v, %d", b, n, e)
	}
}

// Of P17.2, P17.3: the chapter's example.
func TestExample(t *testing.T) {
	n := leaf("ac", 1, 2)
	if at, ok := Find(n, "b"); at != 1 || ok {
		t.Errorf("Find is %d, %v", at, ok)
	}
	if got := Insert(n, 1, "b", 5); !same(got, leaf("abc", 1, 5, 2)) {
		t.Errorf("Insert is %v", got)
	}
	a, key, b := Split(leaf("abc", 1, 2, 3))
	if !same(a, leaf("a", 1)) || key != "b" || !same(b, leaf("bc", 2, 3)) {
		t.Errorf("Split is %v, %s, %v", a, key, b)
	}
}

// Of P17.1, P17.4.
func TestPack(t *testing.T) {
	five := func(vals ...byte) string { return "\x00\x00\x00\x00" + string(vals) }
	wantOctets(t, api.Node{Leaf: true}, "\x01\x00")
	wantOctets(t, of(true, []string{}, []int{}...), "\x01\x00")
	wantOctets(t, leaf("a", 7), "\x01\x01\x01a"+five(7))
	wantOctets(t, leaf("abcd", 4, 3, 2, 1), "\x01\x04\x01a\x01b\x01c\x01d"+five(4)+five(3)+five(2)+five(1))
	wantOctets(t, inner("a", 8, 9), "\x02\x01\x01a"+five(8)+five(9))
	wantOctets(t, inner("abcd", 5, 4, 3, 2, 1), "\x02\x04\x01a\x01b\x01c\x01d"+five(5)+five(4)+five(3)+five(2)+five(1))
	wantOctets(t, of(true, []string{"ab", "c"}, 258, 1<<40-1), "\x01\x02\x02ab\x01c\x00\x00\x00\x01\x02\xff\xff\xff\xff\xff")
	wantOctets(t, leaf("a", 0x0102030405), "\x01\x01\x01a\x01\x02\x03\x04\x05")
	wantOctets(t, leaf("a", 0xfffefdfcfb), "\x01\x01\x01a\xff\xfe\xfd\xfc\xfb")
	// Values need neither rise nor differ.
	wantOctets(t, inner("ab", 3, 3, 0), "\x02\x02\x01a\x01b"+five(3)+five(3)+five(0))
	// Keys are any octets; their order is that of these, a beginning ahead of the whole.
	wantOctets(t, of(true, []string{"\x00", "\x00\x00", "\x7f", "\x80"}, 1, 2, 3, 4), "\x01\x04\x01\x00\x02\x00\x00\x01\x7f\x01\x80"+five(1)+five(2)+five(3)+five(4))
	wantOctets(t, of(true, []string{"B", "a", "ab", "b"}, 1, 2, 3, 4), "\x01\x04\x01B\x01a\x02ab\x01b"+five(1)+five(2)+five(3)+five(4))
	wantOctets(t, of(true, []string{"a\xff", "\xc3\xa4", "\xff", "\xff\xfe"}, 1, 2, 3, 4), "\x01\x04\x02a\xff\x02\xc3\xa4\x01\xff\x02\xff\xfe"+five(1)+five(2)+five(3)+five(4))
	for n := 1; n <= 100; n++ {
		key := strings.Repeat("x", n)
		wantOctets(t, of(true, []string{key}, n), "\x01\x01"+string([]byte{byte(n)})+key+five(byte(n)))
	}
	for shift := range 40 {
		v := 1 << shift
		wantOctets(t, leaf("a", v), "\x01\x01\x01a"+string([]byte{byte(v >> 32), byte(v >> 24), byte(v >> 16), byte(v >> 8), byte(v)}))
	}
}

// Of P17.1: the greatest node fits in a page.
func TestGreatest(t *testing.T) {
	var keys []string
	for i := range api.MaxItems {
		keys = append(keys, strings.Repeat(string(rune('a'+i)), api.MaxKey))
	}
	n := of(false, keys, slices.Repeat([]int{api.MaxValue}, api.MaxItems+1)...)
	b, e := Pack(n)
	if len(b) != 2+4*101+5*5 || len(b) > api.MaxPage || e != api.OK {
		t.Fatalf("Pack is %d octets, %d", len(b), e)
	}
	wantOctets(t, n, string(b))
}

// Of P17.1.
func TestWrong(t *testing.T) {
	long := strings.Repeat("x", 101)
	for _, n := range []api.Node{
		// A leaf with other values than keys.
		{Leaf: true, Vals: []int{1}},
		leaf("a"), leaf("a", 1, 2), leaf("ab", 1), leaf("ab", 1, 2, 3), leaf("abcd", 1, 2, 3), leaf("abcd", 1, 2, 3, 4, 5),
		// Another one with others than one more; without a key.
		{}, {Vals: []int{1}}, {Vals: []int{1, 2}},
		inner("a"), inner("a", 1), inner("a", 1, 2, 3), inner("abcd", 1, 2, 3, 4), inner("abcd", 1, 2, 3, 4, 5, 6),
		// Too many.
		leaf("abcde", 1, 2, 3, 4, 5), inner("abcde", 1, 2, 3, 4, 5, 6), leaf("abcdef", 1, 2, 3, 4, 5, 6),
		// Keys that don't rise.
		leaf("aa", 1, 2), leaf("ba", 1, 2), leaf("abb", 1, 2, 3), leaf("abca", 1, 2, 3, 4), leaf("acbd", 1, 2, 3, 4), inner("aa", 1, 2, 3), inner("ba", 1, 2, 3), inner("abdc", 1, 2, 3, 4, 5),
		of(true, []string{"ab", "a"}, 1, 2), of(true, []string{"a", "B"}, 1, 2), of(true, []string{"\x80", "\x7f"}, 1, 2), of(true, []string{"a", "a\x00", "a"}, 1, 2, 3),
		// No keys.
		of(true, []string{""}, 1), of(true, []string{"", "a"}, 1, 2), of(true, []string{"a", ""}, 1, 2), of(false, []string{""}, 1, 2), of(false, []string{"", "a"}, 1, 2, 3),
		of(true, []string{long}, 1), of(false, []string{long}, 1, 2), of(true, []string{"a", long}, 1, 2), of(true, []string{long, "y"}, 1, 2), of(true, []string{strings.Repeat("x", 256)}, 1), of(true, []string{strings.Repeat("x", 257)}, 1),
	} {
		wantWrong(t, n)
	}
	for _, v := range []int{-1, -2, -256, 1 << 40, 1<<40 + 1, 1 << 41, 1 << 62, -1 << 40, math.MaxInt, math.MinInt, math.MinInt + 1} {
		wantWrong(t, leaf("a", v))
		for at := range 4 {
			vals := []int{1, 2, 3, 4, 5}
			vals[at] = v
			wantWrong(t, leaf("abcd", vals[:4]...))
			wantWrong(t, inner("abcd", vals...))
			vals[at], vals[4] = 1, v
			wantWrong(t, inner("abcd", vals...))
		}
	}
	// Of as many keys as one octet can't tell.
	for _, n := range []int{255, 256, 257, 258, 512, 65536, 65537} {
		var keys []string
		for i := range n {
			keys = append(keys, string([]byte{byte(i >> 16), byte(i >> 8), byte(i)}))
		}
		wantWrong(t, of(true, keys, make([]int, n)...))
		wantWrong(t, of(false, keys, make([]int, n+1)...))
	}
}

// rightOnes are nodes of all sorts and numbers of keys.
func rightOnes() []api.Node {
	keys := []string{"\x00", "\x01\x02", "\x02abc", strings.Repeat("\xff", 100)}
	vals := []int{0, 258, 1<<40 - 1, 1 << 32, 0x0102030405}
	var l []api.Node
	for count := range 5 {
		l = append(l, of(true, keys[:count], vals[:count]...))
		l = append(l, of(true, keys[4-count:], vals[5-count:]...))
		if count > 0 {
			l = append(l, of(false, keys[:count], vals[:count+1]...))
			l = append(l, of(false, keys[4-count:], vals[4-count:]...))
		}
	}
	return l
}

// Of P17.1: octets that are missing, or are too many, however they may be read.
func TestUnpackOfParts(t *testing.T) {
	wantNoNode(t, nil)
	wantNoNode(t, []byte{})
	wantNoNode(t, []byte{}[:0:0])
	for _, n := range rightOnes() {
		b := meant(n)
		wantOctets(t, n, string(b))
		for i := range b {
			wantNoNode(t, b[:i])
		}
		for _, more := range []string{"\x00", "\x01", "\x02", "\xff", "\x00\x00\x00\x00\x00", "\x01\x00"} {
			wantNoNode(t, append(slices.Clone(b), more...))
			// With others ahead they may be another node's.
			wantUnpack(t, append([]byte(more), b...))
		}
		wantNoNode(t, append(slices.Clone(b), b...))
		wantNoNode(t, append(slices.Clone(b), make([]byte, 100000)...))
	}
}

// Of P17.1: any octet another one, one taken out, one put in.
func TestUnpackOfOthers(t *testing.T) {
	for _, n := range rightOnes() {
		b := meant(n)
		for i := range b {
			other := slices.Clone(b)
			for c := range 256 {
				other[i] = byte(c)
				wantUnpack(t, other)
			}
			wantUnpack(t, slices.Delete(slices.Clone(b), i, i+1))
			for _, c := range []byte{0, 1, 2, 3, 5, 100, 101, 255} {
				wantUnpack(t, slices.Insert(slices.Clone(b), i, c))
			}
		}
	}
}

// Of P17.1: what is written as a node is, and isn't right.
func TestUnpackOfWrong(t *testing.T) {
	for _, n := range []api.Node{
		{Vals: []int{1}}, {Vals: []int{}}, leaf("aa", 1, 2), leaf("ba", 1, 2), inner("ba", 1, 2, 3),
		leaf("abcde", 1, 2, 3, 4, 5), inner("abcde", 1, 2, 3, 4, 5, 6),
		leaf("a"), leaf("a", 1, 2), inner("a", 1), inner("a", 1, 2, 3), {Leaf: true, Vals: []int{1}},
		of(true, []string{""}, 1), of(false, []string{"", "a"}, 1, 2, 3), of(true, []string{strings.Repeat("x", 101)}, 1), of(true, []string{strings.Repeat("x", 255)}, 1),
	} {
		wantNoNode(t, meant(n))
	}
	for sort := range 256 {
		if sort != 1 && sort != 2 {
			for _, rest := range [][]byte{{0}, meant(leaf("a", 1))[1:], meant(inner("a", 1, 2))[1:]} {
				wantNoNode(t, append([]byte{byte(sort)}, rest...))
			}
		}
	}
	for count := range 256 {
		// As many keys as are told, and as many values: more than 4 are too many.
		var b []byte
		for i := range count {
			b = append(b, 1, byte(i))
		}
		for extra := range 2 {
			if count == extra {
				continue
			}
			got := slices.Concat([]byte{byte(1 + extra), byte(count)}, b, make([]byte, 5*(count+extra)))
			if count > api.MaxItems {
				wantNoNode(t, got)
			} else if count > 0 {
				wantUnpack(t, got)
			}
		}
	}
	wantNoNode(t, bytes.Repeat([]byte{255}, 1<<20))
	wantNoNode(t, bytes.Repeat([]byte{1}, 1<<20))
	wantNoNode(t, make([]byte, 505))
}

func wantFind(t *testing.T, n api.Node, key string, want int, there bool) {
	t.Helper()
	if at, ok := Find(n, key); at != want || ok != there {
		t.Errorf("Find(%v, %q) is %d, %v, not %d, %v", n, key, at, ok, want, there)
	}
}

func wantChild(t *testing.T, n api.Node, key string, want int) {
	t.Helper()
	if at := Child(n, key); at != want {
		t.Errorf("Child(%v, %q) is %d, not %d", n, key, at, want)
	}
}

// Of P17.2.
func TestFind(t *testing.T) {
	keys := []string{"a\x00", "b", "bb", "\xe4"}
	for _, n := range []api.Node{of(true, keys, 1, 2, 3, 4), of(false, keys, 1, 2, 3, 4, 5), of(true, keys), of(false, keys)} {
		for i, key := range keys {
			wantFind(t, n, key, i, true)
			wantChild(t, n, key, i+1)
			wantFind(t, n, key+"\x00", i+1, false)
			wantChild(t, n, key+"\x00", i+1)
		}
		for key, want := range map[string]int{"": 0, "a": 0, "A": 0, "a\x00\x00": 1, "aa": 1, "ba": 2, "bbb": 3, "c": 3, "\xe3\xff": 3, "\xe4a": 4, "\xff": 4, strings.Repeat("b", 1000): 3} {
			wantFind(t, n, key, want, false)
			wantChild(t, n, key, want)
		}
	}
	for _, n := range []api.Node{{}, {Leaf: true}, {Vals: []int{1}}, {Leaf: true, Vals: []int{1, 2}}} {
		for _, key := range []string{"", "a", "\xff"} {
			wantFind(t, n, key, 0, false)
			wantChild(t, n, key, 0)
		}
	}
}

// Of P17.2: keys that don't rise are counted from the front, till one isn't so.
func TestFindOfOrderless(t *testing.T) {
	n := leaf("bdac")
	for _, c := range []struct {
		key   string
		at    int
		there bool
		child int
	}{
		{"a", 0, false, 0}, {"b", 0, true, 1}, {"c", 1, false, 1}, {"d", 1, true, 4}, {"e", 4, false, 4}, {"", 0, false, 0},
	} {
		wantFind(t, n, c.key, c.at, c.there)
		wantChild(t, n, c.key, c.child)
	}
	// Of one key several times the first one is found; no child is between them.
	for _, n := range []api.Node{leaf("abbbc"), inner("abbbc")} {
		wantFind(t, n, "b", 1, true)
		wantChild(t, n, "b", 4)
		wantFind(t, n, "aa", 1, false)
		wantChild(t, n, "aa", 1)
	}
	n = of(true, []string{"", "a", "", "a"})
	wantFind(t, n, "", 0, true)
	wantChild(t, n, "", 1)
	wantFind(t, n, "a", 1, true)
	wantChild(t, n, "a", 4)
	// A key is there behind one that is greater: it isn't found.
	n = leaf("cba")
	wantFind(t, n, "a", 0, false)
	wantFind(t, n, "b", 0, false)
	wantFind(t, n, "d", 3, false)
	wantChild(t, n, "b", 0)
	wantChild(t, n, "c", 3)
}

// Of P17.2: of many keys, rising ones.
func TestFindOfMany(t *testing.T) {
	var keys []string
	for i := range 3000 {
		keys = append(keys, string([]byte{byte(i >> 8), byte(i)}))
	}
	for _, sort := range []bool{true, false} {
		n := of(sort, keys)
		for i, key := range keys {
			wantFind(t, n, key, i, true)
			wantChild(t, n, key, i+1)
			wantFind(t, n, key+"\x00", i+1, false)
			wantChild(t, n, key+"\x00", i+1)
		}
	}
}
