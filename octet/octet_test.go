package octet

import (
	"regexp"
	"slices"
	"strings"
	"testing"
	"unsafe"

	"icehouse/api"
)

const (
	letters = "abcdefghijklmnopqrstuvwxyzABCDEFGHIJKLMNOPQRSTUVWXYZ"
	figures = "0123456789"
)

// texts are all of at most that many octets of an alphabet.
func texts(alphabet string, most int) []string {
	all := []string{""}
	for from := 0; most > 0; most-- {
		to := len(all)
		for _, s := range all[from:to] {
			for i := range len(alphabet) {
				all = append(all, s+alphabet[i:i+1])
			}
		}
		from = to
	}
	return all
}

func one(c int) string { return string([]byte{byte(c)}) }

// Of P1.1.
func TestToken(t *testing.T) {
	// Those that RFC 9110, 5.6.2 names, one by one.
	fit := letters + figures + "!#$%&'*+-.^_\x60|~"
	for c := range 256 {
		want := strings.Contains(fit, one(c))
		for _, s := range []string{one(c), "x" + one(c), one(c) + "x", "x" + one(c) + "x"} {
			if Token(s) != want {
				t.Errorf("Token(%q) is %t", s, !want)
			}
		}
	}
	if Token("") {
		t.Error("the empty text is no token")
	}
	for s, want := range map[string]bool{"Content-Length": true, "a b": false, "a ": false, " a": false, "a,b": false, "\"a\"": false, "a/b": false, "\u00e9": false, "\xff": false} {
		if Token(s) != want {
			t.Errorf("Token(%q) is %t", s, !want)
		}
	}
}

// Of P1.1.
func TestValue(t *testing.T) {
	for c := range 256 {
		fits := c == '\t' || c >= ' ' && c != 127
		blank := c == '\t' || c == ' '
		for s, want := range map[string]bool{"x" + one(c) + "y": fits, one(c): fits && !blank, "x" + one(c): fits && !blank, one(c) + "x": fits && !blank} {
			if Value(s) != want {
				t.Errorf("Value(%q) is %t", s, !want)
			}
		}
	}
	for s, want := range map[string]bool{"": true, "a": true, "a \t b": true, "\"": true, "\\": true, "\xff\x80": true, " \t": false, "a\r\nb": false, "a\x00": false} {
		if Value(s) != want {
			t.Errorf("Value(%q) is %t", s, !want)
		}
	}
}

// Of P1.1.
func TestTrim(t *testing.T) {
	for s, want := range map[string]string{
		"": "", " ": "", "\t": "", " \t \t": "", "a": "a", " a": "a", "a ": "a", "\t \ta \t": "a", "  a \t b\t": "a \t b",
		"\ra\n": "\ra\n", "\va\f": "\va\f", "\u00a0a\u00a0": "\u00a0a\u00a0", " \x85 ": "\x85", " \xff \xfe ": "\xff \xfe", "\x00 ": "\x00",
	} {
		if got := Trim(s); got != want {
			t.Errorf("Trim(%q) is %q, not %q", s, got, want)
		}
	}
}

// Of P1.1.
func TestLower(t *testing.T) {
	for c := range 256 {
		want := one(c)
		if i := strings.Index(letters[26:], want); i >= 0 {
			want = letters[i : i+1]
		}
		if got := Lower(one(c)); got != want {
			t.Errorf("Lower(%q) is %q", one(c), got)
		}
	}
	for s, want := range map[string]string{"": "", "Az09[@`{": "az09[@`{", "A\u00c9\u0130\u212aZ": "a\u00c9\u0130\u212az", "\xffX\xc3": "\xffx\xc3"} {
		if got := Lower(s); got != want {
			t.Errorf("Lower(%q) is %q, not %q", s, got, want)
		}
	}
}

// Of P1.2.
func TestQuote(t *testing.T) {
	for s, want := range map[string]string{
		"": `""`, "a": `"a"`, " \ta ": "\" \ta \"", `"`: `"\""`, `\`: `"\\"`, `a"\b`: `"a\"\\b"`, `\"`: `"\\\""`, "\xff\u00e9": "\"\xff\u00e9\"", "a,b": `"a,b"`,
	} {
		if got, e := Quote(s); got != want || e != api.OK {
			t.Errorf("Quote(%q) is %q, %d", s, got, e)
		}
	}
	for c := range 256 {
		s := "a" + one(c) + "b"
		got, e := Quote(s)
		if c == '\t' || c >= ' ' && c != 127 {
			if e != api.OK || !strings.HasPrefix(got, "\"a") || !strings.HasSuffix(got, one(c)+"b\"") {
				t.Errorf("Quote(%q) is %q, %d", s, got, e)
			}
		} else if got != "" || e != api.ErrForm {
			t.Errorf("Quote(%q) is %q, %d", s, got, e)
		}
	}
}

// Of P1.2.
func TestUnquote(t *testing.T) {
	for _, c := range []struct {
		s, want string
		n       int
	}{
		{`""`, "", 2}, {`"a"`, "a", 3}, {`"a"b"`, "a", 3}, {`"a\"b"c`, `a"b`, 6}, {`"\\"`, `\`, 4}, {`"\\""`, `\`, 4}, {`"\a\,"`, "a,", 6}, {"\" \t \"", " \t ", 5}, {"\"\\\t\"", "\t", 4}, {"\"\xff\"\x00", "\xff", 3}, {`"a, b"`, "a, b", 6},
	} {
		if got, n, e := Unquote(c.s); got != c.want || n != c.n || e != api.OK {
			t.Errorf("Unquote(%q) is %q, %d, %d", c.s, got, n, e)
		}
	}
	for _, s := range []string{"", "a", "a\"b\"", " \"a\"", `"`, `"a`, `"\`, `"\"`, `"a\"`, `"\\`, `"\\\"`, "'a'", "\\\"a\""} {
		if got, n, e := Unquote(s); got != "" || n != 0 || e != api.ErrForm {
			t.Errorf("Unquote(%q) is %q, %d, %d", s, got, n, e)
		}
	}
	for c := range 256 {
		fits := c == '\t' || c >= ' ' && c != 127
		if c != '"' && c != '\\' {
			got, n, e := Unquote("\"a" + one(c) + "\"")
			if fits && (got != "a"+one(c) || n != 4 || e != api.OK) || !fits && (got != "" || n != 0 || e != api.ErrForm) {
				t.Errorf("Unquote with %q is %q, %d, %d", one(c), got, n, e)
			}
		}
		got, n, e := Unquote("\"a\\" + one(c) + "\"")
		if fits && (got != "a"+one(c) || n != 5 || e != api.OK) || !fits && (got != "" || n != 0 || e != api.ErrForm) {
			t.Errorf("Unquote with %q behind \\ is %q, %d, %d", one(c), got, n, e)
		}
	}
}

// Of P1.3.
func TestSplit(t *testing.T) {
	for _, c := range []struct{ ss, want []string }{
		{nil, nil},
		{[]string{""}, nil},
		{[]string{"", " ", ",", " ,\t, "}, nil},
		{[]string{"a, \"b,c\" ,", "d"}, []string{"a", `"b,c"`, "d"}},
		{[]string{",a,,b c,"}, []string{"a", "b c"}},
		{[]string{"a", "b"}, []string{"a", "b"}},
		{[]string{"b,a,b"}, []string{"b", "a", "b"}},
		{[]string{`x="a,b", y`}, []string{`x="a,b"`, "y"}},
		{[]string{`"a\",b",c`}, []string{`"a\",b"`, "c"}},
		{[]string{`"a\\",b`}, []string{`"a\\"`, "b"}},
		{[]string{`a\,b`, `\",c"`}, []string{`a\`, "b", `\",c"`}},
		{[]string{`"",a`}, []string{`""`, "a"}},
		{[]string{`"a, b `, "c,d"}, []string{`"a, b`, "c", "d"}},
		{[]string{`"a\`, `",b`, `c"`}, []string{`"a\`, `",b`, `c"`}},
		{[]string{`"a"",b","c`}, []string{`"a"",b"`, `"c`}},
		{[]string{"\ra\n,\x00"}, []string{"\ra\n", "\x00"}},
	} {
		if got := Split(c.ss...); !slices.Equal(got, c.want) {
			t.Errorf("Split(%q) is %q, not %q", c.ss, got, c.want)
		}
	}
}

// Of P1.3: all short texts, against a pattern of what stands between two commas.
func TestSplitOfAll(t *testing.T) {
	piece := regexp.MustCompile(`(?s)\A(?:[^",]|"(?:[^"\\]|\\.)*(?:"|\\?\z))*`)
	for _, s := range texts("a,\"\\ ", 6) {
		var want []string
		for rest := s; ; {
			x := piece.FindString(rest)
			if y := strings.Trim(x, " "); y != "" {
				want = append(want, y)
			}
			if len(x) == len(rest) {
				break
			}
			rest = rest[len(x)+1:]
		}
		if got := Split(s); !slices.Equal(got, want) {
			t.Fatalf("Split(%q) is %q, not %q", s, got, want)
		}
	}
}

// Of P1.5.
func TestUnquoteOfQuote(t *testing.T) {
	for _, s := range texts("a\"\\ \t\xff,", 4) {
		q, e := Quote(s)
		if e != api.OK {
			t.Fatalf("Quote(%q): %d", s, e)
		}
		for _, behind := range []string{"", "\"", "x", "\\\"", "\x00"} {
			if got, n, e := Unquote(q + behind); got != s || n != len(q) || e != api.OK {
				t.Fatalf("Unquote(%q) is %q, %d, %d", q+behind, got, n, e)
			}
		}
	}
}

// Of P1.5.
func TestSplitOfPieces(t *testing.T) {
	some := []string{"a", `"b,c"`, `x="\"," y`, "", `\`, `""`, "\xff d"}
	var walk func(list []string)
	walk = func(list []string) {
		var want []string
		for _, s := range list {
			if s != "" {
				want = append(want, s)
			}
		}
		// Each bit of cuts: does a new text begin there?
		for cuts := range 1 << max(len(list)-1, 0) {
			ss := slices.Clone(list[:min(len(list), 1)])
			for i, s := range list[min(len(list), 1):] {
				if cuts>>i&1 == 1 {
					ss = append(ss, s)
				} else {
					ss[len(ss)-1] += " ,\t" + s
				}
			}
			if got := Split(ss...); !slices.Equal(got, want) {
				t.Fatalf("Split(%q) is %q, not %q", ss, got, want)
			}
		}
		if len(list) < 4 {
			for _, s := range some {
				walk(append(slices.Clone(list), s))
			}
		}
	}
	walk(nil)
}

func overlap(a, b string) bool {
	x, y := uintptr(unsafe.Pointer(unsafe.StringData(a))), uintptr(unsafe.Pointer(unsafe.StringData(b)))
	return len(a) > 0 && len(b) > 0 && x < y+uintptr(len(b)) && y < x+uintptr(len(a))
}

// Of P1.5.
func TestNewMemory(t *testing.T) {
	fresh := func(what, s string, answers ...string) {
		for i, a := range answers {
			if overlap(a, s) {
				t.Errorf("%s(%q): %q shares its memory", what, s, a)
			}
			for _, b := range answers[:i] {
				if overlap(a, b) {
					t.Errorf("%s(%q): %q and %q share memory", what, s, a, b)
				}
			}
		}
	}
	for _, s := range []string{"abcd", "  abcd  ", "abcd ", `"abcd"`, `"ab\cd" x`, "ab,cd", " ab , \"c,d\",ef "} {
		fresh("Trim", s, Trim(s))
		fresh("Lower", s, Lower(s))
		q, _ := Quote(s)
		fresh("Quote", s, q)
		u, _, _ := Unquote(s)
		fresh("Unquote", s, u)
		fresh("Split", s, Split(s)...)
	}
	room := []string{"ab", "c,\"d\"", "", "spare"}
	handed := room[:3]
	got := Split(handed...)
	got[0] = "other"
	_ = append(got, "more")
	if !slices.Equal(room, []string{"ab", "c,\"d\"", "", "spare"}) {
		t.Errorf("Split changed what it was given: %q", room)
	}
	if again := Split(handed...); !slices.Equal(again, []string{"ab", "c", "\"d\""}) {
		t.Errorf("Split again is %q", again)
	}
}
