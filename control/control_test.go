package control

import (
	"math"
	"regexp"
	"slices"
	"strconv"
	"strings"
	"testing"
	"unsafe"

	"icehouse/api"
)

const most = 1<<31 - 1

// bare is what nothing says, each field by its name.
var bare = api.Control{NoStore: false, NoCache: false, Public: false, Private: false, Must: false, Proxy: false, OnlyIf: false, MaxAge: -1, SMaxAge: -1, MaxStale: -1, MinFresh: -1}

type turn func(*api.Control)

// said is bare, turned.
func said(turns ...turn) api.Control {
	c := bare
	for _, f := range turns {
		f(&c)
	}
	return c
}

type flagged struct {
	name string
	at   func(*api.Control) *bool
}

type numbered struct {
	name string
	at   func(*api.Control) *int
	// What it says without an argument.
	alone int
}

// In the order in which they are written.
var (
	allFlags = []flagged{
		{"no-store", func(c *api.Control) *bool { return &c.NoStore }},
		{"no-cache", func(c *api.Control) *bool { return &c.NoCache }},
		{"public", func(c *api.Control) *bool { return &c.Public }},
		{"private", func(c *api.Control) *bool { return &c.Private }},
		{"must-revalidate", func(c *api.Control) *bool { return &c.Must }},
		{"proxy-revalidate", func(c *api.Control) *bool { return &c.Proxy }},
		{"only-if-cached", func(c *api.Control) *bool { return &c.OnlyIf }},
	}
	allNumbers = []numbered{
		{"max-age", func(c *api.Control) *int { return &c.MaxAge }, 0},
		{"s-maxage", func(c *api.Control) *int { return &c.SMaxAge }, 0},
		{"max-stale", func(c *api.Control) *int { return &c.MaxStale }, most},
		{"min-fresh", func(c *api.Control) *int { return &c.MinFresh }, 0},
	}
)

func (f flagged) on(c *api.Control) { *f.at(c) = true }

func (f numbered) is(n int) turn { return func(c *api.Control) { *f.at(c) = n } }

func wantParse(t *testing.T, want api.Control, values ...string) {
	t.Helper()
	if got := Parse(values...); got != want {
		t.Errorf("Parse(%q) is %v, not %v", values, got, want)
	}
}

// Of P4.1.
func TestNone(t *testing.T) {
	if None() != bare {
		t.Errorf("None is %v", None())
	}
	wantParse(t, bare)
	for _, s := range []string{"", " ", ",", " , ,\t,", "x", "x=5", "x=\"no-store, max-age=5\"", "=", "=5", "\"max-age=5\"", "max", "age=5", "no-store2", "xno-store", "max-age2=5", "no_store", "nostore", "maxage=5", "s-max-age=5", "stale-while-revalidate=5", "immutable"} {
		wantParse(t, bare, s)
		wantParse(t, bare, s, s)
	}
}

// Of P4.1: with whatever argument.
func TestFlags(t *testing.T) {
	for _, f := range allFlags {
		want := said(f.on)
		for _, behind := range []string{"", "=x", "=0", "=-1", "=false", "=\"\"", "=\"a, b\"", "=\"\\\"\"", "=\"\\,\"", "=\"\t\xff\"", "=!#$%&'*+-.^_\x60|~", "=" + strings.Repeat("9", 99)} {
			wantParse(t, want, f.name+behind)
			wantParse(t, want, "x, "+f.name+behind+" ,y")
			wantParse(t, want, f.name+behind, f.name, f.name+"=y")
		}
		for _, behind := range []string{"=", "==", "=x=y", "=x y", "= x", " =x", " = x", " x", ";", ";x", ":", "/", "=\"", "=\"x", "=\"\\\"", "=\"x\"y", "=\"x\" y", "=\"x\"\"y\"", "=x\"y\"", "=\"x\"=", "=\"\x00\"", "=\"\\\x7f\"", "=\x00", "=\u00e9", "=(x)", "\x00", "\u00e9", "\"x\"", "\r", "\n"} {
			wantParse(t, bare, f.name+behind)
		}
		for _, ahead := range []string{"\"", "=", ";", "a ", "\x00", "\r\n", "\u00a0"} {
			wantParse(t, bare, ahead+f.name)
		}
		wantParse(t, bare, "\""+f.name+"\"")
		wantParse(t, bare, "x=\"a, "+f.name+"\", y=\", "+f.name)
	}
	wantParse(t, said(allFlags[0].on, allFlags[1].on, allFlags[2].on, allFlags[3].on, allFlags[4].on, allFlags[5].on, allFlags[6].on),
		"only-if-cached, proxy-revalidate, must-revalidate", "private=\"set-cookie\", public", "no-cache=x, no-store")
}

// Of P4.1.
func TestNumbers(t *testing.T) {
	for _, f := range allNumbers {
		for behind, n := range map[string]int{
			"": f.alone, "=0": 0, "=5": 5, "=0005": 5, "=\"60\"": 60, "=\"\\6\\0\"": 60, "=\"007\"": 7,
			"=2147483646": most - 1, "=2147483647": most, "=2147483648": most, "=4294967296": most, "=9223372036854775807": most, "=9223372036854775808": most, "=18446744073709551617": most,
			"=\"2147483648\"": most, "=" + strings.Repeat("9", 1000): most, "=" + strings.Repeat("0", 1000) + "9": 9,
			"=x": 0, "=-1": 0, "=+1": 0, "=1.5": 0, "=5s": 0, "=0x5": 0, "=a": 0, "=\"\"": 0, "=\" 5\"": 0, "=\"5 \"": 0, "=\"5,6\"": 0, "=\"\\\"5\\\"\"": 0, "=\"\u0665\"": 0, "=" + strings.Repeat("9", 99) + "x": 0, "=1_000": 0,
		} {
			wantParse(t, said(f.is(n)), f.name+behind)
			wantParse(t, said(f.is(n)), "x, "+f.name+behind+" ,y")
			// The first one's, though others come behind.
			wantParse(t, said(f.is(n)), f.name+behind+", "+f.name+"=77")
			wantParse(t, said(f.is(n)), f.name+behind, f.name, f.name+"=77")
			wantParse(t, said(f.is(77)), f.name+"=77", f.name+behind)
		}
		for _, behind := range []string{"=", " = 5", "= 5", " =5", "=5 6", "=5;", "==5", "=5=", "=\"5", "=\"5\"6", "=\"5\"\"6\"", "=5\"6\"", "=\"5\" x", "=\"5\\\"", "=\"5\x00\"", "=\u0665", "=5\r", " 5", ":5"} {
			wantParse(t, bare, f.name+behind)
			// What is no directive isn't the first one.
			wantParse(t, said(f.is(8)), f.name+behind, f.name+"=8, "+f.name+"=9")
		}
	}
	wantParse(t, api.Control{MaxAge: 1, SMaxAge: 2, MaxStale: 3, MinFresh: 4}, "min-fresh=4, max-stale=3", "s-maxage=2, max-age=1, max-age=5")
	wantParse(t, said(allFlags[0].on, allNumbers[0].is(60)), "Max-Age=\"60\", x=y, no-store", "max-age=5")
}

// piece is what stands between two commas, form which of it says something, coded what stands behind a \ in it.
var (
	piece = regexp.MustCompile(`(?s)\A(?:[^",]|"(?:[^"\\]|\\.)*(?:"|\\?\z))*`)
	coded = regexp.MustCompile(`(?s)\\(.)`)
	form  = regexp.MustCompile("(?s)\\A([-!#$%&'*+.^_\x60|~0-9A-Za-z]+)(=(?:([-!#$%&'*+.^_\x60|~0-9A-Za-z]+)|\"((?:[^\"\\\\]|\\\\.)*)\"))?\\z")
)

// meant is what a value says, word by word.
func meant(s string) api.Control {
	c := bare
	for {
		x := piece.FindString(s)
		if parts := form.FindStringSubmatch(strings.Trim(x, " ")); parts != nil {
			name, arg := strings.ToLower(parts[1]), parts[3]+coded.ReplaceAllString(parts[4], "$1")
			for _, f := range allFlags {
				if f.name == name {
					f.on(&c)
				}
			}
			for _, f := range allNumbers {
				if f.name == name && *f.at(&c) == -1 {
					n, err := strconv.Atoi(arg)
					switch {
					case parts[2] == "":
						n = f.alone
					case err != nil:
						n = 0
					}
					*f.at(&c) = n
				}
			}
		}
		if len(x) == len(s) {
			return c
		}
		s = s[len(x)+1:]
	}
}

// Of P4.1 and P4.3: all short rows of what directives are made of.
func TestOfAll(t *testing.T) {
	some := []string{"no-store", "MAX-AGE", "max-stale", "=", "\"", ",", " ", "5", "\\"}
	rows, loud := []string{""}, 0
	for from := range 6 {
		var longer []string
		for _, row := range rows {
			for _, s := range []string{row, "max-age=\"" + row} {
				want := meant(s)
				if wantParse(t, want, s); t.Failed() {
					return
				}
				if want != bare {
					loud++
				}
			}
			for _, s := range some {
				if from < 5 {
					longer = append(longer, row+s)
				}
			}
		}
		rows = longer
	}
	if loud < 10000 {
		t.Errorf("%d rows that say something: too few to tell", loud)
	}
}

// Of P4.2.
func TestPrint(t *testing.T) {
	for _, c := range []struct {
		c    api.Control
		want string
	}{
		{bare, ""},
		{api.Control{}, "max-age=0, s-maxage=0, max-stale=0, min-fresh=0"},
		{api.Control{NoStore: true, Public: true, MaxAge: 60, SMaxAge: -1, MaxStale: -5, MinFresh: 0}, "no-store, public, max-age=60, min-fresh=0"},
		{api.Control{NoStore: true, NoCache: true, Public: true, Private: true, Must: true, Proxy: true, OnlyIf: true, MaxAge: 1, SMaxAge: 22, MaxStale: 333, MinFresh: 4444},
			"no-store, no-cache, public, private, must-revalidate, proxy-revalidate, only-if-cached, max-age=1, s-maxage=22, max-stale=333, min-fresh=4444"},
		{said(allNumbers[2].is(most)), "max-stale=2147483647"},
		{said(allNumbers[2].is(most + 1)), "max-stale=2147483648"},
		{said(allNumbers[0].is(math.MaxInt)), "max-age=9223372036854775807"},
		{api.Control{MaxAge: -2, SMaxAge: math.MinInt, MaxStale: -1, MinFresh: -most}, ""},
	} {
		if got := Print(c.c); got != c.want {
			t.Errorf("Print of %v is %q, not %q", c.c, got, c.want)
		}
	}
	for _, f := range allFlags {
		if got := Print(said(f.on)); got != f.name {
			t.Errorf("Print of %s is %q", f.name, got)
		}
	}
	for _, f := range allNumbers {
		for n, digits := range map[int]string{0: "0", 7: "7", 10: "10", most: "2147483647", 1 << 40: "1099511627776"} {
			if got := Print(said(f.is(n))); got != f.name+"="+digits {
				t.Errorf("Print of %s, %d, is %q", f.name, n, got)
			}
		}
	}
}

// Of P4.3: all sets of flags, with some numbers in turn.
func TestParseOfPrint(t *testing.T) {
	some := map[int]int{-1: -1, math.MinInt: -1, -most: -1, 0: 0, 1: 1, 3600: 3600, most - 1: most - 1, most: most, most + 1: most, 1 << 40: most, math.MaxInt: most}
	for set := range 1 << len(allFlags) {
		c := bare
		for i, f := range allFlags {
			*f.at(&c) = set>>i&1 == 1
		}
		wantParse(t, c, Print(c))
		for _, f := range allNumbers {
			for n, kept := range some {
				d, want := c, c
				*f.at(&d), *f.at(&want) = n, kept
				wantParse(t, want, Print(d))
				for _, g := range allNumbers {
					if g.name != f.name {
						*g.at(&d), *g.at(&want) = n, kept
					}
				}
				wantParse(t, want, Print(d))
			}
		}
	}
}

// Of P4.3: blanks, great letters, directives that say nothing here, other orders, and other values make no difference.
func TestManners(t *testing.T) {
	directives := []string{"no-store", "max-age=60", "private=\"a, b\"", "min-fresh=\"007\"", "max-stale"}
	want := api.Control{NoStore: true, Private: true, MaxAge: 60, SMaxAge: -1, MaxStale: most, MinFresh: 7}
	for _, between := range []string{",", ", ", " ,", "\t, \t", ",,", " , ,\t,", ", x, ", ",x=\"no-cache, max-age=5\",", ", \"s-maxage=1\" ,", ", max-age = 5,", ",no-cache=,", ",\x00,", ", public;,"} {
		s := strings.Join(directives, between)
		for _, row := range []string{s, " \t" + s + "\t ", "," + s + ",", strings.ToUpper(s), strings.ReplaceAll(s, "max", "mAx")} {
			wantParse(t, want, row)
			wantParse(t, want, "", row, " ,", row, row)
		}
	}
	for cuts := range 1 << (len(directives) - 1) {
		values := directives[:1:1]
		for i, s := range directives[1:] {
			if cuts>>i&1 == 1 {
				values = append(values, s)
			} else {
				values = slices.Clone(values)
				values[len(values)-1] += "," + s
			}
		}
		wantParse(t, want, values...)
		slices.Reverse(values)
		wantParse(t, want, values...)
	}
	// A value's end ends what isn't closed in it.
	wantParse(t, said(allNumbers[0].is(5)), "x=\"a", "max-age=5", "no-store=\"", "max-age=6")
}

// Of P4.3.
func TestNewMemory(t *testing.T) {
	room := []string{"Max-Age=\"60\", no-store", "private", "spare", "no-cache"}
	handed, was := room[:2], slices.Clone(room)
	for range 2 {
		wantParse(t, said(allFlags[0].on, allFlags[3].on, allNumbers[0].is(60)), handed...)
	}
	if !slices.Equal(room, was) {
		t.Errorf("Parse changed what it was given: %q", room)
	}
	for _, c := range []api.Control{said(allFlags[0].on), said(allNumbers[0].is(60)), said(allFlags[0].on, allNumbers[3].is(5))} {
		if a, b := Print(c), Print(c); a != b || unsafe.StringData(a) == unsafe.StringData(b) {
			t.Errorf("Print of %v: %q and %q share memory", c, a, b)
		}
	}
}
