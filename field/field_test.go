package field

import (
	"fmt"
	"regexp"
	"slices"
	"strings"
	"testing"

	"icehouse/api"
)

const (
	// Those that RFC 9110, 5.6.2 names, one by one.
	tokens = "abcdefghijklmnopqrstuvwxyzABCDEFGHIJKLMNOPQRSTUVWXYZ0123456789!#$%&'*+-.^_\x60|~"
	most   = 65536
)

func one(c int) string { return string([]byte{byte(c)}) }

// list are fields of names and values, by turns.
func list(texts ...string) []api.Field {
	var fs []api.Field
	for i := 0; i < len(texts); i += 2 {
		fs = append(fs, api.Field{Name: texts[i], Value: texts[i+1]})
	}
	return fs
}

// times is a list, n times.
func times(fs []api.Field, n int) []api.Field { return slices.Repeat(fs, n) }

// long is a field whose line, as it is written, has n octets.
func long(n int) []api.Field { return list("a", strings.Repeat("x", n-5)) }

// texts are all of at most that many octets of an alphabet.
func texts(alphabet string, most int) []string {
	all := []string{""}
	for from := 0; most > 0; most-- {
		to := len(all)
		for _, s := range all[from:to] {
			for i := range len(alphabet) {
				all = append(all, s+alphabet[i:i+1])
			}
		}
		from = to
	}
	return all
}

func brief(x any) string {
	s := fmt.Sprintf("%q", x)
	if len(s) > 80 {
		return s[:80] + " .."
	}
	return s
}

// wantPrint: also of Right, which is true where there is a header.
func wantPrint(t *testing.T, fs []api.Field, want string, e api.Errno) {
	t.Helper()
	if b, got := Print(fs...); string(b) != want || got != e {
		t.Errorf("Print of %s is %s, %d, not %s, %d", brief(fs), brief(b), got, brief(want), e)
	}
	if Right(fs...) != (e == api.OK) {
		t.Errorf("Right of %s is %t", brief(fs), e != api.OK)
	}
}

func wantParse(t *testing.T, s string, fs []api.Field, n int, e api.Errno) {
	t.Helper()
	if l, gotN, got := Parse([]byte(s)); !slices.Equal(l, fs) || gotN != n || got != e {
		t.Errorf("Parse(%s) is %s, %d, %d, not %s, %d, %d", brief(s), brief(l), gotN, got, brief(fs), n, e)
	}
}

// Of P3.1.
func TestPrint(t *testing.T) {
	wantPrint(t, nil, "\r\n", api.OK)
	wantPrint(t, []api.Field{}, "\r\n", api.OK)
	wantPrint(t, list("A", "b"), "A: b\r\n\r\n", api.OK)
	wantPrint(t, list("A", "b", "c", "", "A", "d: \t e", "a", "\"\xff,"), "A: b\r\nc: \r\nA: d: \t e\r\na: \"\xff,\r\n\r\n", api.OK)
	for _, f := range list("", "", "", "x", "a b", "x", "a ", "x", " a", "x", "a:", "x", "a", " x", "a", "x ", "a", "\t", "a", "x\r\ny", "a", "x\n y", "a", "\r", "a\r\n", "x", "\xff", "x", "a", "\x00", "a", "\x7f") {
		wantPrint(t, []api.Field{f}, "", api.ErrForm)
		wantPrint(t, append(list("a", "b", "c", "d"), f), "", api.ErrForm)
		wantPrint(t, append([]api.Field{f}, list("a", "b", "c", "d")...), "", api.ErrForm)
	}
}

// Of P3.1: which octets a name and a value may have, at their ends and within.
func TestPrintOfOctets(t *testing.T) {
	for c := range 256 {
		o := one(c)
		blank := c == ' ' || c == '\t'
		want := func(fits bool, name, value string) {
			t.Helper()
			if fits {
				wantPrint(t, list(name, value), name+": "+value+"\r\n\r\n", api.OK)
			} else {
				wantPrint(t, list(name, value), "", api.ErrForm)
			}
		}
		for _, name := range []string{o, o + "x", "x" + o, "x" + o + "x"} {
			want(strings.Contains(tokens, o), name, "v")
		}
		fits := c >= ' ' && c != 127 || blank
		want(fits, "n", "x"+o+"x")
		for _, value := range []string{o, o + "x", "x" + o} {
			want(fits && !blank, "n", value)
		}
	}
}

// Of P3.1: how many, how great; which error comes first.
func TestPrintOfMany(t *testing.T) {
	wantPrint(t, times(list("a", ""), 128), strings.Repeat("a: \r\n", 128)+"\r\n", api.OK)
	wantPrint(t, times(list("a", ""), 129), "", api.ErrMany)
	wantPrint(t, times(list("a", ""), 100000), "", api.ErrMany)
	wantPrint(t, long(most-2), "a: "+strings.Repeat("x", most-7)+"\r\n\r\n", api.OK)
	wantPrint(t, long(most-1), "", api.ErrLong)
	wantPrint(t, long(most), "", api.ErrLong)
	wantPrint(t, list(strings.Repeat("n", most-6), ""), strings.Repeat("n", most-6)+": \r\n\r\n", api.OK)
	wantPrint(t, list(strings.Repeat("n", most-5), ""), "", api.ErrLong)
	wantPrint(t, times(long(512), 127), strings.Repeat("a: "+strings.Repeat("x", 507)+"\r\n", 127)+"\r\n", api.OK)
	wantPrint(t, slices.Concat(times(long(512), 127), long(510)), strings.Repeat("a: "+strings.Repeat("x", 507)+"\r\n", 127)+"a: "+strings.Repeat("x", 505)+"\r\n\r\n", api.OK)
	wantPrint(t, slices.Concat(times(long(512), 127), long(511)), "", api.ErrLong)
	wantPrint(t, times(long(512), 128), "", api.ErrLong)
	wantPrint(t, times(long(512), 129), "", api.ErrMany)
	wantPrint(t, append(long(2*most), list("", "")...), "", api.ErrForm)
	wantPrint(t, append(times(list("a", ""), 129), list("a", " ")...), "", api.ErrForm)
	wantPrint(t, slices.Concat(list("a b", ""), times(long(512), 129)), "", api.ErrForm)
}

// Of P3.2.
func TestParse(t *testing.T) {
	wantParse(t, "\r\n", nil, 2, api.OK)
	wantParse(t, "A: b\r\nC:\r\n\r\nx", list("A", "b", "C", ""), 12, api.OK)
	wantParse(t, "A:b\r\nC: \t\r\nD-e: x: y \r\n\r\nrest", list("A", "b", "C", "", "D-e", "x: y"), 25, api.OK)
	wantParse(t, "a:\t \tx \t y\t \t\r\na::\r\nA:\xff\r\n\r\n", list("a", "x \t y", "a", ":", "A", "\xff"), 27, api.OK)
	for s, e := range map[string]api.Errno{
		// No line's end yet, whatever the line begins with.
		"": api.ErrMore, "\r": api.ErrMore, "\n": api.ErrMore, "a": api.ErrMore, "a: b": api.ErrMore, "a: b\r": api.ErrMore, "a: b\n": api.ErrMore, "a: b\n\n": api.ErrMore, "a: b\n\r": api.ErrMore, "a: b\r\n": api.ErrMore, "a: b\r\n\r": api.ErrMore, "a: b\r\nc": api.ErrMore, " ": api.ErrMore, "a b: c": api.ErrMore, ":": api.ErrMore, "\x00": api.ErrMore,
		// No fields.
		" \r\n": api.ErrForm, "\t\r\n\r\n": api.ErrForm, "a\r\n": api.ErrForm, "a\r\n\r\n": api.ErrForm, ":\r\n": api.ErrForm, ": b\r\n": api.ErrForm, " a: b\r\n": api.ErrForm, "a : b\r\n": api.ErrForm, "a\t: b\r\n": api.ErrForm, "a b: c\r\n": api.ErrForm, "a: b\r\n c\r\n\r\n": api.ErrForm, "a: b\r\n\tc: d\r\n\r\n": api.ErrForm, "(a): b\r\n": api.ErrForm, "\"a\": b\r\n": api.ErrForm, "\xe9: b\r\n": api.ErrForm,
		"a: \x00\r\n": api.ErrForm, "a: b\x7f\r\n": api.ErrForm, "a: b\x1b\r\n\r\n": api.ErrForm, "a: b\vc\r\n": api.ErrForm,
		// A CR or LF within.
		"a: b\nc: d\r\n\r\n": api.ErrForm, "a: b\rc: d\r\n\r\n": api.ErrForm, "a: b\r\r\n\r\n": api.ErrForm, "\r\r\n": api.ErrForm, "\n\r\n": api.ErrForm, "a: b\n\r\n": api.ErrForm, "a: \r\r\n": api.ErrForm, "a\n: b\r\n": api.ErrForm, "a: b\r\n\n\r\n": api.ErrForm, "a: b\r\n\r\r\n": api.ErrForm, "a:\n b\r\n\r\n": api.ErrForm,
		// The first wrong line is it.
		"a: b\r\nc\r\nd": api.ErrForm, "HTTP/1.1 200 OK\r\na: b\r\n\r\n": api.ErrForm,
	} {
		wantParse(t, s, nil, 0, e)
	}
}

// Of P3.2: which octets a line may have, at its parts' ends and within.
func TestParseOfOctets(t *testing.T) {
	for c := range 256 {
		o := one(c)
		blank := c == ' ' || c == '\t'
		want := func(fits bool, line, name, value string) {
			t.Helper()
			if fits {
				wantParse(t, line+"\r\n\r\n", list(name, value), len(line)+4, api.OK)
			} else {
				wantParse(t, line+"\r\n\r\n", nil, 0, api.ErrForm)
			}
		}
		named := strings.Contains(tokens, o)
		if o != ":" {
			want(named, "x"+o+"x:v", "x"+o+"x", "v")
			want(named, o+":v", o, "v")
			want(named, "x"+o+":v", "x"+o, "v")
		} else {
			want(true, "x"+o+":v", "x", ":v")
		}
		want(named, o+"x:v", o+"x", "v")
		fits := c >= ' ' && c != 127 || blank
		want(fits, "n:x"+o+"y", "n", "x"+o+"y")
		if blank {
			want(true, "n:"+o, "n", "")
			want(true, "n:"+o+"x"+o, "n", "x")
		} else {
			want(fits, "n:"+o, "n", o)
			want(fits, "n: "+o+" ", "n", o)
			want(fits, "n:"+o+"x"+o, "n", o+"x"+o)
		}
	}
}

// Of P3.2: all short texts, alone and behind a line, against a pattern of a line.
func TestParseOfAll(t *testing.T) {
	pattern := regexp.MustCompile(`\A([a-z]+):[ \t]*([^ \t\r\n](?:[^\r\n]*[^ \t\r\n])?|)[ \t]*\r\n\z`)
	meant := func(s string) (fs []api.Field, n int, e api.Errno) {
		for _, line := range strings.SplitAfter(s, "\r\n") {
			parts := pattern.FindStringSubmatch(line)
			n += len(line)
			switch {
			case line == "\r\n":
				return fs, n, api.OK
			case !strings.HasSuffix(line, "\r\n"):
				return nil, 0, api.ErrMore
			case parts == nil:
				return nil, 0, api.ErrForm
			}
			fs = append(fs, list(parts[1], parts[2])...)
		}
		t.Fatalf("%q", s)
		return
	}
	good := 0
	for _, s := range texts("a: \r\n", 7) {
		for _, s := range []string{s, "b:c\r\n" + s, s + "\r\n\r\n"} {
			fs, n, e := meant(s)
			wantParse(t, s, fs, n, e)
			if e == api.OK && len(fs) > 0 {
				good++
			}
		}
	}
	if good < 1000 {
		t.Errorf("%d headers: too few to tell", good)
	}
}

// Of P3.2: what is too long.
func TestParseOfLong(t *testing.T) {
	xs := func(n int) string { return strings.Repeat("x", n) }
	// As long as may be, and an octet more, at the last line's end, at the header's end.
	wantParse(t, "a: "+xs(most-7)+"\r\n\r\n", list("a", xs(most-7)), most, api.OK)
	wantParse(t, "a: "+xs(most-7)+"\r\n\r\n"+xs(most), list("a", xs(most-7)), most, api.OK)
	for _, s := range []string{
		"a: " + xs(most-6) + "\r\n\r\n", "a: " + xs(most-5) + "\r\n\r\n", "a: " + xs(most-4) + "\r\n\r\n", "a: " + xs(most-4) + "\r\n", "a: " + xs(most-5) + "\r\n\r", "a: " + xs(2*most) + "\r\n\r\n",
		xs(most + 1), xs(most-1) + "\r\n", xs(most) + "\r", xs(most) + "\r\n", xs(10 * most), "\x00" + xs(most), strings.Repeat("\n", most+1), strings.Repeat("\r", most+1), strings.Repeat("\r", most) + "\n",
		"a:" + strings.Repeat(" ", most-3) + "\r\n\r\n", "b: c\r\n" + xs(most-5), "b: c\r\na: " + xs(most-9) + "\r\n",
		// Each line is short.
		strings.Repeat("a: "+xs(1019)+"\r\n", 64) + "\r\n", strings.Repeat("a: "+xs(1019)+"\r\n", 64) + "x",
		// It is wrong, too, and one too many.
		"a b: " + xs(most) + "\r\n", strings.Repeat("a: "+xs(505)+"\r\n", 128) + xs(769), strings.Repeat("a: "+xs(507)+"\r\n", 128) + "a: b\r\n",
	} {
		wantParse(t, s, nil, 0, api.ErrLong)
	}
	for _, s := range []string{xs(most), xs(most-1) + "\r", "a: " + xs(most-5) + "\r\n", "a: " + xs(most-6) + "\r\n\r", strings.Repeat("\n", most), strings.Repeat("a: "+xs(1019)+"\r\n", 64)} {
		wantParse(t, s, nil, 0, api.ErrMore)
	}
	for _, s := range []string{xs(most-2) + "\r\n", "a b: " + xs(most-7) + "\r\n" + xs(9), "a\r\n" + xs(2*most), "a: b\r\n\n\r\n" + xs(2*most)} {
		wantParse(t, s, nil, 0, api.ErrForm)
	}
	// What counts are the octets that there are, not those that are written of the fields.
	wantParse(t, "a:"+xs(most-6)+"\r\n\r\n", list("a", xs(most-6)), most, api.OK)
	wantParse(t, "a:"+strings.Repeat(" ", most-6)+"\r\n\r\n", list("a", ""), most, api.OK)
	wantParse(t, "a:"+strings.Repeat("\t", most-5)+"\r\n\r\n", nil, 0, api.ErrLong)
}

// Of P3.2: what is too many.
func TestParseOfMany(t *testing.T) {
	full := strings.Repeat("a:\r\n", 128)
	wantParse(t, full+"\r\n", times(list("a", ""), 128), 514, api.OK)
	wantParse(t, full+"\r\nb:\r\n", times(list("a", ""), 128), 514, api.OK)
	wantParse(t, full, nil, 0, api.ErrMore)
	wantParse(t, full+"\r", nil, 0, api.ErrMore)
	wantParse(t, full+"b: c", nil, 0, api.ErrMore)
	wantParse(t, full+"b: c\r", nil, 0, api.ErrMore)
	wantParse(t, full+"b\r\n", nil, 0, api.ErrForm)
	wantParse(t, full+" \r\n\r\n", nil, 0, api.ErrForm)
	wantParse(t, full+strings.Repeat("x", most), nil, 0, api.ErrLong)
	wantParse(t, full+"b:"+strings.Repeat("x", most-514)+"\r\n", nil, 0, api.ErrLong)
	for _, s := range []string{"b:\r\n", "b: c\r\n\r\n", "b:\r\nc\r\n", "b:\r\n" + strings.Repeat("x", most), "b:" + strings.Repeat("x", most-516) + "\r\n", strings.Repeat("c:\r\n", 1000)} {
		wantParse(t, full+s, nil, 0, api.ErrMany)
	}
}

// Of P3.4: of all short lists of some fields, whatever stands behind.
func TestParseOfPrint(t *testing.T) {
	some := list("a", "b", "A", "", "c-D", "x: y\t \"z\\", "~", "\xff\x80", "0", ":")
	lists := [][]api.Field{nil}
	for from := 0; len(lists) < 1000; from++ {
		if len(lists[from]) < 5 {
			for _, f := range some {
				lists = append(lists, append(slices.Clone(lists[from]), f))
			}
		}
	}
	lists = append(lists, times(some[:1], 128), long(most-2), slices.Concat(times(long(512), 127), long(510)))
	for _, fs := range lists {
		b, e := Print(fs...)
		if e != api.OK {
			t.Fatalf("Print of %s: %d", brief(fs), e)
		}
		for _, behind := range []string{"", "x", "\r\n", "\n", "a: b\r\n\r\n", "\x00", strings.Repeat("y", most+1)} {
			wantParse(t, string(b)+behind, fs, len(b), api.OK)
		}
		for n := range min(len(b), 100) {
			wantParse(t, string(b[:n]), nil, 0, api.ErrMore)
		}
	}
}

// Of P3.4: what is written of what was read is read as the same, though it isn't written as it came.
func TestPrintOfParse(t *testing.T) {
	for _, s := range texts("a: \r\n", 7) {
		fs, _, e := Parse([]byte(s + "\r\n\r\n"))
		if e != api.OK {
			continue
		}
		b, e := Print(fs...)
		if e != api.OK || !Right(fs...) {
			t.Fatalf("Print of %q: %d", fs, e)
		}
		wantParse(t, string(b), fs, len(b), api.OK)
	}
}
