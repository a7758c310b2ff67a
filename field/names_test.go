package field

import (
	"bytes"
	"cmp"
	"slices"
	"strings"
	"testing"
	"unsafe"

	"icehouse/api"
)

// Of P3.3.
func TestGet(t *testing.T) {
	fs := list("A", "1", "b", "2", "a", "", "ab", "4", "A", "1", "", "6", "\u00c9", "7", "\xe9", "8", "a ", "9")
	for name, want := range map[string][]string{
		"a": {"1", "", "1"}, "A": {"1", "", "1"}, "B": {"2"}, "AB": {"4"}, "aB": {"4"}, "z": nil, "": {"6"}, "a ": {"9"}, "A ": {"9"}, " a": nil,
		"\u00c9": {"7"}, "\u00e9": nil, "\xe9": {"8"}, "\xc9": nil, "\u212a": nil,
	} {
		if got := Get(fs, name); !slices.Equal(got, want) {
			t.Errorf("Get of %q is %q, not %q", name, got, want)
		}
		v, ok := One(fs, name)
		if ok != (len(want) == 1) || ok && v != want[0] || !ok && v != "" {
			t.Errorf("One of %q is %q, %t", name, v, ok)
		}
	}
	if len(Get(nil, "a")) != 0 || len(Get([]api.Field{}, "")) != 0 {
		t.Error("Get of no fields")
	}
	if v, ok := One(nil, "a"); v != "" || ok {
		t.Error("One of no fields")
	}
	if v, ok := One(list("b", "1", "A", ""), "a"); v != "" || !ok {
		t.Error("One of an empty value")
	}
	if v, ok := One(list("a", "1", "A", "1"), "a"); v != "" || ok {
		t.Error("One of two that are the same")
	}
	// Names are one by their letters A to Z alone: the sign of a kelvin isn't k, nor the long s an s.
	if len(Get(list("K", "1", "S", "2"), "\u212a")) != 0 || len(Get(list("\u017f", "1"), "s")) != 0 {
		t.Error("Get of other letters")
	}
}

// Of P3.3.
func TestWithout(t *testing.T) {
	fs := list("A", "1", "b", "2", "a", "3", "", "4", "ab", "5")
	for _, c := range []struct {
		names []string
		want  []api.Field
	}{
		{nil, fs},
		{[]string{"z", "ba"}, fs},
		{[]string{"a"}, list("b", "2", "", "4", "ab", "5")},
		{[]string{"B", "A"}, list("", "4", "ab", "5")},
		{[]string{"A", "a", "A"}, list("b", "2", "", "4", "ab", "5")},
		{[]string{""}, list("A", "1", "b", "2", "a", "3", "ab", "5")},
		{[]string{"aB", "z", "a", "", "b"}, nil},
	} {
		if got := Without(fs, c.names...); !slices.Equal(got, c.want) {
			t.Errorf("Without %q is %q, not %q", c.names, got, c.want)
		}
	}
	if len(Without(nil)) != 0 || len(Without(nil, "a")) != 0 {
		t.Error("Without of no fields")
	}
}

// Of P3.3.
func TestWith(t *testing.T) {
	for _, c := range []struct{ fs, more, want []api.Field }{
		{nil, nil, nil},
		{list("A", "1", "a", "2", "A", "1"), nil, list("A", "1", "a", "2", "A", "1")},
		{list("A", "1", "B", "2"), list("a", "3"), list("a", "3", "B", "2")},
		{list("A", "1", "b", "2", "a", "3"), list("a", "9", "c", "8"), list("a", "9", "b", "2", "c", "8")},
		{nil, list("a", "1"), list("a", "1")},
		{nil, list("a", "1", "b", "2", "A", "3"), list("A", "3", "b", "2")},
		{list("b", "1", "a", "2"), list("c", "3", "A", "4", "C", "5", "a", "6"), list("b", "1", "a", "6", "C", "5")},
		{list("b", "1", "a", "2", "b", "3", "a", "4", "c", "5", "B", "6"), list("A", "7", "B", ""), list("B", "", "A", "7", "c", "5")},
		{list("b", "1", "b", "2"), list("a", "3"), list("b", "1", "b", "2", "a", "3")},
		// Fields that aren't right are fields.
		{list("", "1", "a b", "2"), list("A B", " ", "", "\r\n"), list("", "\r\n", "A B", " ")},
		{list("\u00c9", "1"), list("\u00e9", "2"), list("\u00c9", "1", "\u00e9", "2")},
	} {
		if got := With(c.fs, c.more...); !slices.Equal(got, c.want) {
			t.Errorf("With of %q and %q is %q, not %q", c.fs, c.more, got, c.want)
		}
	}
	many := times(list("A", "1", "b", "2"), 100000)
	if got := With(many, times(list("c", "3", "a", "4"), 100000)...); len(got) != 100002 || got[0] != (api.Field{Name: "a", Value: "4"}) || got[100001] != (api.Field{Name: "c", Value: "3"}) {
		t.Errorf("With of many: %d", len(got))
	}
}

// with is With, word by word: each of more ahead of the next one.
func with(fs []api.Field, more ...api.Field) []api.Field {
	fs = slices.Clone(fs)
	for _, f := range more {
		i := slices.IndexFunc(fs, func(g api.Field) bool { return strings.EqualFold(f.Name, g.Name) })
		if i < 0 {
			fs = append(fs, f)
			continue
		}
		fs[i] = f
		for j := len(fs) - 1; j > i; j-- {
			if strings.EqualFold(f.Name, fs[j].Name) {
				fs = slices.Delete(fs, j, j+1)
			}
		}
	}
	return fs
}

// Of P3.3: all short lists of some names.
func TestOfAll(t *testing.T) {
	numbered := func(names string, from int) []api.Field {
		var fs []api.Field
		for i := range len(names) {
			fs = append(fs, list(names[i:i+1], one('0'+from+i))...)
		}
		return fs
	}
	for _, names := range texts("aAbc", 5) {
		fs := numbered(names, 0)
		for _, others := range texts("aBb", 3) {
			more := numbered(others, 5)
			if got, want := With(fs, more...), with(fs, more...); !slices.Equal(got, want) {
				t.Fatalf("With of %q and %q is %q, not %q", fs, more, got, want)
			}
			var values []string
			var rest []api.Field
			for _, f := range fs {
				if strings.Contains(strings.ToLower(others), strings.ToLower(f.Name)) {
					values = append(values, f.Value)
				} else {
					rest = append(rest, f)
				}
			}
			if got := Without(fs, strings.Split(others, "")...); !slices.Equal(got, rest) {
				t.Fatalf("Without of %q and %q is %q, not %q", fs, others, got, rest)
			}
			if len(others) == 1 && !slices.Equal(Get(fs, others), values) {
				t.Fatalf("Get of %q and %q is %q, not %q", fs, others, Get(fs, others), values)
			}
		}
	}
}

func place[T any](p *T) uintptr { return uintptr(unsafe.Pointer(p)) }

// span is where a text is.
func span(s string) [2]uintptr {
	from := place(unsafe.StringData(s))
	return [2]uintptr{from, from + uintptr(len(s))}
}

// spans are where fields' texts are.
func spans(fs []api.Field) [][2]uintptr {
	var all [][2]uintptr
	for _, f := range fs {
		all = append(all, span(f.Name), span(f.Value))
	}
	return all
}

// wantApart: no two of them overlap.
func wantApart(t *testing.T, what string, all ...[2]uintptr) {
	t.Helper()
	slices.SortFunc(all, func(a, b [2]uintptr) int { return cmp.Compare(a[0], b[0]) })
	for i := 1; i < len(all); i++ {
		if all[i][0] < all[i-1][1] && all[i-1][0] < all[i][1] {
			t.Errorf("%s: texts share memory", what)
			return
		}
	}
}

// Of P3.4.
func TestNewMemory(t *testing.T) {
	b := []byte("Abc: def\r\nGhi:jkl\r\n\r\nrest")
	was := bytes.Clone(b)
	fs, n, e := Parse(b)
	again, _, _ := Parse(b)
	if e != api.OK || !bytes.Equal(b, was) {
		t.Fatalf("Parse: %d, %q", e, b)
	}
	from := place(unsafe.SliceData(b))
	wantApart(t, "Parse", append(slices.Concat(spans(fs), spans(again)), [2]uintptr{from, from + uintptr(len(b))})...)
	clear(b)
	if n != 21 || !slices.Equal(fs, list("Abc", "def", "Ghi", "jkl")) {
		t.Errorf("Parse kept what it was given: %q", fs)
	}
	room := append(slices.Clone(fs), list("spare", "room", "abc", "more")...)
	handed, kept := room[:2], slices.Clone(room)
	v, _ := One(handed, "abc")
	values := Get(handed, "abc")
	without, all := Without(handed, "ghi"), Without(handed)
	with, same := With(handed, room[3:]...), With(handed)
	head, _ := Print(handed...)
	other, _ := Print(handed...)
	wantApart(t, "Get, One, Without, With", append(slices.Concat(spans(room), spans(without), spans(all), spans(with), spans(same)), span(v), span(values[0]))...)
	for _, l := range [][]api.Field{without, all, with, same} {
		_ = append(l, api.Field{Name: "over"})
		clear(l[:cap(l)])
	}
	_ = append(values, "over")
	clear(values)
	clear(head[:cap(head)])
	if string(other) != "Abc: def\r\nGhi: jkl\r\n\r\n" {
		t.Errorf("Print shares memory: %q", other)
	}
	if !slices.Equal(room, kept) {
		t.Errorf("what was handed in is %q", room)
	}
	if got := With(handed, room[3:]...); !slices.Equal(got, list("abc", "more", "Ghi", "jkl")) {
		t.Errorf("With again is %q", got)
	}
}
