package vary

import (
	"cmp"
	"fmt"
	"regexp"
	"slices"
	"strings"
	"testing"
	"unsafe"

	"icehouse/api"
	"icehouse/field"
)

// Those that RFC 9110, 5.6.2 names, one by one.
const tokens = "abcdefghijklmnopqrstuvwxyzABCDEFGHIJKLMNOPQRSTUVWXYZ0123456789!#$%&'*+-.^_\x60|~"

func one(c int) string { return string([]byte{byte(c)}) }

func brief(x any) string {
	s := fmt.Sprintf("%q", x)
	if len(s) > 200 {
		return s[:200] + " .."
	}
	return s
}

// list are fields of names and values, by turns.
func list(texts ...string) []api.Field {
	var fs []api.Field
	for i := 0; i < len(texts); i += 2 {
		fs = append(fs, api.Field{Name: texts[i], Value: texts[i+1]})
	}
	return fs
}

// rows are all rows of at most so many of some things, the shortest first.
func rows[T any](most int, some ...T) [][]T {
	all := [][]T{nil}
	for from := 0; most > 0; most-- {
		to := len(all)
		for _, row := range all[from:to] {
			for _, x := range some {
				all = append(all, append(slices.Clone(row), x))
			}
		}
		from = to
	}
	return all
}

// great and small are a text with great and with small letters.
func great(s string) string { return turned(s, 'a', 'A') }
func small(s string) string { return turned(s, 'A', 'a') }

func turned(s string, from, to byte) string {
	b := []byte(s)
	for i, c := range b {
		if from <= c && c < from+26 {
			b[i] = c - from + to
		}
	}
	return string(b)
}

// wantNames: also of the values in great letters, which say the same.
func wantNames(t *testing.T, values, want []string, ok bool) {
	t.Helper()
	var inGreat []string
	for _, s := range values {
		inGreat = append(inGreat, great(s))
	}
	for _, ss := range [][]string{values, inGreat} {
		if got, gotOk := Names(ss...); gotOk != ok || !slices.Equal(got, want) {
			t.Errorf("Names of %s is %s, %t, not %s, %t", brief(ss), brief(got), gotOk, brief(want), ok)
		}
	}
}

// Of P9.1.
func TestNames(t *testing.T) {
	for _, c := range []struct{ values, want []string }{
		{nil, nil},
		{[]string{}, nil},
		{[]string{""}, nil},
		{[]string{" ", ",", "\t, ,,", ""}, nil},
		{[]string{"a"}, []string{"a"}},
		{[]string{"Accept, A", "accept"}, []string{"a", "accept"}},
		{[]string{"Foo, accept", "", "FOO"}, []string{"accept", "foo"}},
		{[]string{",a ,\tB\t", "c,,d, "}, []string{"a", "b", "c", "d"}},
		{[]string{"a", "A", "a,A", " a"}, []string{"a"}},
		{[]string{"b, a, B, c, A, b"}, []string{"a", "b", "c"}},
		// By their octets, as they are in small letters, and not by their length.
		{[]string{"b", "ab", "a", "aa", "B-", "a-b"}, []string{"a", "a-b", "aa", "ab", "b", "b-"}},
		{[]string{"~, |, z, a, Z, \x60, _, ^, 9, 0, A, ., -, +, ', &, %, $, #, !"}, []string{"!", "#", "$", "%", "&", "'", "+", "-", ".", "0", "9", "^", "_", "\x60", "a", "z", "|", "~"}},
		{[]string{"a10, a9, a1, A_, A^, a-"}, []string{"a-", "a1", "a10", "a9", "a^", "a_"}},
		// A name that has a * is one.
		{[]string{"a*, *a", "**", "*.*"}, []string{"**", "*.*", "*a", "a*"}},
		{[]string{"accept-encoding,Accept-Language, ACCEPT-ENCODING, User-Agent"}, []string{"accept-encoding", "accept-language", "user-agent"}},
	} {
		wantNames(t, c.values, c.want, true)
	}
}

// Of P9.1.
func TestNamesOfWrong(t *testing.T) {
	for _, s := range []string{
		"*", " * ", ",*,", "*,*", "a b", "a\tb", "\"a\"", "\"a", "\"", "\"\"", "a\"", "\"*\"", "\"a,b\"", "a;", "a;q=1", "a=b", "a:", "(a)", "a/b", "* *", "[a]", "{a}", "<a>", "a@b", "a?", "\\", "\\*", "a\\",
		"\x00", "a\x00", "a\x7f", "a\r", "\n", "a\r\nb", "a\vb", "\u00e9", "\xe9", "a\u00a0", "\u00a0", "\u2028", "\u212a",
	} {
		// Wherever it stands.
		for _, values := range [][]string{{s}, {"a, " + s}, {s + ", a"}, {"a", s}, {s, "a"}, {"", s, ""}, {"a, b," + s + ", c"}, {"b, a", "c, " + s, "d"}} {
			wantNames(t, values, nil, false)
		}
	}
	// Commas within quotation marks part nothing; the marks end with their text.
	wantNames(t, []string{"\"a, b, c"}, nil, false)
	wantNames(t, []string{"a\", b", "c"}, nil, false)
}

// Of P9.1: which octets a name may have, alone, at its ends and within.
func TestNamesOfOctets(t *testing.T) {
	for c := range 256 {
		o := one(c)
		low := small(o)
		named := strings.Contains(tokens, o)
		want := func(fits bool, value string, names ...string) {
			t.Helper()
			if !fits {
				names = nil
			}
			wantNames(t, []string{value}, names, fits)
		}
		switch o {
		case ",":
			want(true, ",")
			want(true, ",x", "x")
			want(true, "x,", "x")
			want(true, "x,y", "x", "y")
		case " ", "\t":
			want(true, o)
			want(true, o+"x", "x")
			want(true, "x"+o, "x")
			want(false, "x"+o+"y")
		default:
			want(named && o != "*", o, low)
			want(named, o+"x", low+"x")
			want(named, "x"+o, "x"+low)
			want(named, "x"+o+"y", "x"+low+"y")
		}
	}
}

// pieceForm is of what stands between two commas, nameForm of a name.
var (
	pieceForm = regexp.MustCompile(`(?s)\A(?:[^",]|"(?:[^"\\]|\\.)*(?:"|\\?\z))*`)
	nameForm  = regexp.MustCompile("\\A[-!#$%&'*+.^_\x60|~0-9A-Za-z]+\\z")
)

// pieces are a text's, told by a pattern.
func pieces(s string) []string {
	var all []string
	for {
		x := pieceForm.FindString(s)
		if p := strings.Trim(x, " \t"); p != "" {
			all = append(all, p)
		}
		if len(x) == len(s) {
			return all
		}
		s = s[len(x)+1:]
	}
}

// meant are the names of values, word by word.
func meant(values ...string) ([]string, bool) {
	var names []string
	for _, s := range values {
		for _, p := range pieces(s) {
			if p == "*" || !nameForm.MatchString(p) {
				return nil, false
			}
			if p = small(p); !slices.Contains(names, p) {
				names = append(names, p)
			}
		}
	}
	slices.Sort(names)
	return names, true
}

// Of P9.1: all short rows of what values are made of, in one value, and in two.
func TestNamesOfAll(t *testing.T) {
	told, silent := 0, 0
	for _, row := range rows(5, "a", "B", "*", ",", " ", "\"", "\\", ".") {
		for cut := range max(len(row), 1) {
			values := []string{strings.Join(row[:cut], ""), strings.Join(row[cut:], "")}
			if cut == 0 {
				values = values[1:]
			}
			want, ok := meant(values...)
			if wantNames(t, values, want, ok); t.Failed() {
				return
			}
			if ok && len(want) > 1 {
				told++
			} else if !ok {
				silent++
			}
		}
	}
	if told < 1000 || silent < 1000 {
		t.Errorf("%d and %d: too few to tell", told, silent)
	}
}

// Of P9.1: the order in which names come, and how often, are nothing to it.
func TestNamesOfMany(t *testing.T) {
	var values, want []string
	for i := range 100000 {
		values = append(values, fmt.Sprintf("N%05d , n%05d", 99999-i, i/2))
		want = append(want, fmt.Sprintf("n%05d", i))
	}
	wantNames(t, values, want, true)
	wantNames(t, []string{strings.Join(values, ",")}, want, true)
	wantNames(t, append(values, "*"), nil, false)
	long := strings.Repeat("n", 1<<20)
	wantNames(t, []string{long}, []string{long}, true)
}

func wantKey(t *testing.T, names []string, fs []api.Field, want string) {
	t.Helper()
	if got := Key(names, fs); got != want {
		t.Errorf("Key of %s and %s is %s, not %s", brief(names), brief(fs), brief(got), brief(want))
	}
}

// Of P9.2.
func TestKey(t *testing.T) {
	for _, c := range []struct {
		names []string
		fs    []api.Field
		want  string
	}{
		{nil, nil, ""},
		{nil, list("a", "b"), ""},
		{[]string{}, list("a", "b"), ""},
		{[]string{"a"}, nil, "a\n"},
		{[]string{"a"}, []api.Field{}, "a\n"},
		{[]string{"a", "accept"}, list("Accept", "x, y"), "a\naccept:x,y\n"},
		{[]string{"accept", "Foo"}, list("Foo", "x , y", "foo", "z", "b", "1"), "accept\nfoo:x,y,z\n"},
		// In the order given, as often as given, in small letters.
		{[]string{"b", "a"}, list("a", "1", "b", "2"), "b:2\na:1\n"},
		{[]string{"B", "a", "b", "c", "A"}, list("A", "1", "B", "2"), "b:2\na:1\nb:2\nc\na:1\n"},
		{[]string{"X-Y"}, list("x-y", "1"), "x-y:1\n"},
		// A field that says nothing is one.
		{[]string{"a", "b"}, list("a", ""), "a:\nb\n"},
		{[]string{"a"}, list("a", "", "A", ""), "a:\n"},
		{[]string{"a"}, list("a", " , ,\t,"), "a:\n"},
		{[]string{"a"}, list("a", "", "a", "x", "a", ",", "a", "y"), "a:x,y\n"},
		// The pieces are as they came, in their order, and as often; what a name says alone is in small letters.
		{[]string{"a"}, list("A", "Xy, zW", "a", "Xy"), "a:Xy,zW,Xy\n"},
		{[]string{"a"}, list("a", "z, a", "b", "q", "A", "k"), "a:z,a,k\n"},
		{[]string{"a"}, list("a", "x  y ,\tz"), "a:x  y,z\n"},
		{[]string{"a"}, list("a", "x:y, a:"), "a:x:y,a:\n"},
		{[]string{"a"}, list("a", "\xff\x80, \u00c9"), "a:\xff\x80,\u00c9\n"},
		{[]string{"a"}, list("a", "*"), "a:*\n"},
		// Commas within quotation marks part nothing; the marks end with their value.
		{[]string{"a"}, list("a", "\"x , y\" , z"), "a:\"x , y\",z\n"},
		{[]string{"a"}, list("a", "x\"y\\\" , z\" , w"), "a:x\"y\\\" , z\",w\n"},
		{[]string{"a"}, list("a", "\"x , ", "a", " y , z"), "a:\"x ,,y,z\n"},
		{[]string{"a"}, list("a", "\"x\\", "a", "\" , z"), "a:\"x\\,\" , z\n"},
		// Names are one by their letters A to Z alone.
		{[]string{"k", "s", "\u00c9"}, list("\u212a", "1", "\u017f", "2", "\u00e9", "3"), "k\ns\n\u00c9\n"},
		{[]string{"\u00c9", "\xe9"}, list("\u00c9", "1", "\xc9", "2"), "\u00c9:1\n\xe9\n"},
		{[]string{"ab"}, list("a", "1", "abc", "2", "a b", "3"), "ab\n"},
		// Names and fields that aren't right.
		{[]string{"", "A B", "*", "a\n", "a:"}, list("", "1", "a b", "2", "*", "3", "A\n", "4", "a:", "5"), ":1\na b:2\n*:3\na\n:4\na::5\n"},
		{[]string{"", "*", "a,b", " a"}, list("a", "1", "b", "2"), "\n*\na,b\n a\n"},
		{[]string{"a"}, list("a", " x\n\x00y\r\n"), "a:x\n\x00y\r\n\n"},
	} {
		wantKey(t, c.names, c.fs, c.want)
	}
	many, value := slices.Repeat(list("A", "x ", "b", "y"), 50000), strings.Repeat("x,", 50000)
	wantKey(t, []string{"c", "a"}, many, "c\na:"+value[:len(value)-1]+"\n")
	wantKey(t, slices.Repeat([]string{"A"}, 50000), list("a", "x"), strings.Repeat("a:x\n", 50000))
}

// wantMatch: also the other way round, of the same, and of keys, where those are right.
func wantMatch(t *testing.T, names []string, a, b []api.Field, want bool) {
	t.Helper()
	if Match(names, a, b) != want || Match(names, b, a) != want {
		t.Errorf("Match of %s, %s and %s isn't %t", brief(names), brief(a), brief(b), want)
	}
	if !Match(names, a, a) || !Match(names, b, b) {
		t.Errorf("Match of %s and the same, of %s or %s, is false", brief(names), brief(a), brief(b))
	}
	same := Key(names, a) == Key(names, b)
	if want && !same {
		t.Errorf("%s and %s match by %s, but haven't one key", brief(a), brief(b), brief(names))
	}
	if same && !want && field.Right(a...) && field.Right(b...) {
		t.Errorf("%s and %s have one key of %s, but don't match", brief(a), brief(b), brief(names))
	}
}

// Of P9.2 and P9.3.
func TestMatch(t *testing.T) {
	fs := list("Foo", "x , y", "foo", "z", "b", "1")
	for _, c := range []struct {
		names []string
		a, b  []api.Field
		want  bool
	}{
		{nil, fs, nil, true},
		{[]string{}, fs, list("b", "2"), true},
		{[]string{"a", "b"}, nil, nil, true},
		{[]string{"foo", "accept"}, fs, list("FOO", "x,y,z"), true},
		{[]string{"foo"}, fs, list("foo", "x", "c", "q", "foo", "y", "foo", "", "foo", "z, "), true},
		{[]string{"b"}, fs, list("FOO", "x,y,z"), false},
		{[]string{"b"}, fs, list("B", "1 "), true},
		{[]string{"B"}, fs, list("b", "2"), false},
		// Each of the names counts, and nothing else.
		{[]string{"a", "b", "c"}, list("a", "1", "b", "2", "c", "3"), list("a", "9", "b", "2", "c", "3"), false},
		{[]string{"a", "b", "c"}, list("a", "1", "b", "2", "c", "3"), list("a", "1", "b", "9", "c", "3"), false},
		{[]string{"a", "b", "c"}, list("a", "1", "b", "2", "c", "3"), list("a", "1", "b", "2", "c", "9"), false},
		{[]string{"a", "b", "c"}, list("a", "1", "b", "2", "c", "3"), list("C", "3", "d", "4", "B", "2", "A", "1"), true},
		{[]string{"a", "c"}, list("a", "1", "b", "2", "c", "3"), list("a", "1", "b", "9", "c", "3"), true},
		// Nothing, and what says nothing.
		{[]string{"c"}, list("c", ""), nil, false},
		{[]string{"c"}, list("c", " ,, "), list("d", ""), false},
		{[]string{"c"}, list("c", ""), list("C", " , ", "c", ""), true},
		{[]string{"c"}, list("d", ""), nil, true},
		// What the pieces are, in which letters, in which order, and how often.
		{[]string{"c"}, list("c", "x"), list("c", "X"), false},
		{[]string{"c"}, list("c", "x, y"), list("c", "y, x"), false},
		{[]string{"c"}, list("c", "x"), list("c", "x, x"), false},
		{[]string{"c"}, list("c", "x y"), list("c", "x  y"), false},
		{[]string{"c"}, list("c", "x y"), list("c", "x, y"), false},
		{[]string{"c"}, list("c", "x"), list("c", "\"x\""), false},
		{[]string{"c"}, list("c", "\"x,y\""), list("c", "\"x, y\""), false},
		{[]string{"c"}, list("c", "\"x,y\""), list("c", "\"x", "c", "y\""), true},
		{[]string{"c"}, list("c", "x;q=1, y;q=0.5"), list("c", "x;q=1,y;q=0.5"), true},
		{[]string{"k"}, list("\u212a", "1"), nil, true},
		// A value, where another one has a name.
		{[]string{"a", "b"}, list("a", "1"), list("b", "1"), false},
		{[]string{"a", "b"}, list("a", "b:1"), list("a", "", "b", "1"), false},
		{[]string{"a", "a:"}, list("a", ":"), list("a", "", "a:", ""), false},
		// Of fields that aren't right: one key, and no match.
		{[]string{"a", "b"}, list("a", "x\nb:y"), list("a", "x", "b", "y\nb"), false},
		{[]string{"a", "b"}, list("a", "x\nb", "b", "y"), list("a", "x", "b", "\nb:y"), false},
		{[]string{"", "A B"}, list("", "1", "a b", "2"), list("A b", "2", "", "1"), true},
		{[]string{"", "A B"}, list("", "1", "a b", "2"), list("A b", "2"), false},
	} {
		wantMatch(t, c.names, c.a, c.b, c.want)
	}
	a, b := list("a", "x\nb:y"), list("a", "x", "b", "y\nb")
	if names := []string{"a", "b"}; Key(names, a) != Key(names, b) {
		t.Error("values that aren't right: the keys aren't one")
	}
	many := slices.Repeat(list("A", "x ", "b", "y"), 50000)
	wantMatch(t, []string{"a"}, many, list("a", strings.Repeat("x , ", 50000)), true)
	wantMatch(t, []string{"a"}, many, list("a", strings.Repeat("x , ", 49999)), false)
}

// partOf is a request's part of a name, word by word; false: nothing.
func partOf(fs []api.Field, name string) (string, bool) {
	var all []string
	there := false
	for _, f := range fs {
		if small(f.Name) == small(name) {
			there = true
			all = append(all, pieces(f.Value)...)
		}
	}
	return strings.Join(all, ","), there
}

// Of P9.2 and P9.3: all short lists of some fields, each against each other, by some names.
func TestOfAll(t *testing.T) {
	some := list("a", "", "A", "x", "a", "\"x,", "b", "x , y", "B", "\"x, y\"", "c", "a:")
	lists := rows(3, some...)
	for _, names := range rows(2, "a", "B", "z") {
		byKey, met := map[string][]api.Field{}, 0
		for _, fs := range lists {
			want := ""
			for _, name := range names {
				want += small(name)
				if part, ok := partOf(fs, name); ok {
					want += ":" + part
				}
				want += "\n"
			}
			if wantKey(t, names, fs, want); t.Failed() {
				return
			}
			if other, ok := byKey[want]; ok {
				wantMatch(t, names, fs, other, true)
				met++
			}
			for key, other := range byKey {
				wantMatch(t, names, fs, other, key == want)
			}
			if t.Failed() {
				return
			}
			byKey[want] = fs
		}
		if met < 50 {
			t.Errorf("%d of one key by %q: too few to tell", met, names)
		}
	}
}

func place[T any](p *T) uintptr { return uintptr(unsafe.Pointer(p)) }

// span is where a text is.
func span(s string) [2]uintptr {
	from := place(unsafe.StringData(s))
	return [2]uintptr{from, from + uintptr(len(s))}
}

func spans(texts ...string) [][2]uintptr {
	var all [][2]uintptr
	for _, s := range texts {
		all = append(all, span(s))
	}
	return all
}

// wantApart: no two of them overlap.
func wantApart(t *testing.T, what string, all ...[2]uintptr) {
	t.Helper()
	slices.SortFunc(all, func(a, b [2]uintptr) int { return cmp.Compare(a[0], b[0]) })
	for i := 1; i < len(all); i++ {
		if all[i][0] < all[i-1][1] && all[i-1][0] < all[i][1] {
			t.Errorf("%s: texts share memory", what)
			return
		}
	}
}

// Of P9.3.
func TestNewMemory(t *testing.T) {
	// Of the same texts the compiler makes one: what is handed in has each once.
	values := []string{"zeta, alpha", "beta", "gamma, zeta", "spare", "room"}
	names := []string{"zeta", "Alpha", "alpha", "more", "rooms"}
	fs := list("Zeta", "value, other", "ALPHA", "third", "Beta", "fourth", "spares", "given")
	wereValues, wereNames, were := slices.Clone(values), slices.Clone(names), slices.Clone(fs)
	wantSame := func() {
		t.Helper()
		if !slices.Equal(values, wereValues) || !slices.Equal(names, wereNames) || !slices.Equal(fs, were) {
			t.Fatalf("what was handed in is %q, %q, %q", values, names, fs)
		}
	}

	first, _ := Names(values[:3]...)
	again, _ := Names(values[:3]...)
	single, _ := Names("alpha")
	wantSame()
	wantApart(t, "Names", slices.Concat(spans(values...), spans(first...), spans(again...), spans(single...))...)
	_ = append(first, "over")
	clear(first[:cap(first)])
	if want := []string{"alpha", "beta", "gamma", "zeta"}; !slices.Equal(again, want) {
		t.Errorf("Names share memory: %q", again)
	}
	wantNames(t, values[:3], again, true)
	if _, ok := Names(append(values[:1:1], "*")...); ok {
		t.Error("Names of a *")
	}

	key, other := Key(names[:3], fs[:3]), Key(names[:3], fs[:3])
	alone := Key([]string{""}, fs)
	if !Match(names[:3], fs[:3], fs[:3]) || Match(names[:3], fs[:3], fs[1:3]) || key != other || alone != "\n" {
		t.Error("a second call answers something else")
	}
	wantSame()
	all := append(spans(names...), spans(key, other)...)
	for _, f := range fs {
		all = append(all, spans(f.Name, f.Value)...)
	}
	wantApart(t, "Key", all...)

	// What comes behind doesn't hang on what was handed in ahead.
	clear(values)
	clear(names)
	clear(fs)
	if key != "zeta:value,other\nalpha:third\nalpha:third\n" || !slices.Equal(again, []string{"alpha", "beta", "gamma", "zeta"}) {
		t.Errorf("an answer became %q, %q", key, again)
	}
	wantKey(t, names[:1], fs[:1], ":\n")
}
