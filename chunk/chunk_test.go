package chunk

import (
	"bytes"
	"fmt"
	"math/rand"
	"regexp"
	"slices"
	"strconv"
	"strings"
	"testing"
	"unsafe"

	"icehouse/api"
)

const (
	// Those that RFC 9110, 5.6.2 names, one by one.
	tokens = "abcdefghijklmnopqrstuvwxyzABCDEFGHIJKLMNOPQRSTUVWXYZ0123456789!#$%&'*+-.^_\x60|~"

	mostLine   = 256
	mostFields = 128
	mostBody   = 1048576
)

func one(c int) string { return string([]byte{byte(c)}) }

func xs(n int) string { return strings.Repeat("x", n) }

func brief(s string) string {
	if len(s) > 120 {
		return fmt.Sprintf("%q .. %q (%d)", s[:80], s[len(s)-30:], len(s))
	}
	return strconv.Quote(s)
}

// texts is all texts of at most so many of the pieces.
func texts(most int, pieces ...string) []string {
	all := []string{""}
	for from := 0; most > 0; most-- {
		to := len(all)
		for _, s := range all[from:to] {
			for _, piece := range pieces {
				all = append(all, s+piece)
			}
		}
		from = to
	}
	return all
}

// chunkOf is a chunk, whose size has great digits.
func chunkOf(s string) string { return fmt.Sprintf("%X\r\n%s\r\n", len(s), s) }

// What a body's parts are, each at a text's front.
var (
	sizeForm  = regexp.MustCompile(`(?s)\A([0-9A-Fa-f]{1,8})(?:[ \t]*;[^\x00-\x08\x0a-\x1f\x7f]*)?\r\n`)
	fieldForm = regexp.MustCompile(`(?s)\A[-!#$%&'*+.^_` + "`" + `|~0-9A-Za-z]+:[^\x00-\x08\x0a-\x1f\x7f]*\r\n`)
)

// lineFault is what is wrong with the line at a text's front, of that form.
func lineFault(s string, form *regexp.Regexp) api.Errno {
	switch i := strings.Index(s, "\n"); {
	case i >= mostLine || i < 0 && len(s) >= mostLine:
		return api.ErrLong
	case i < 0:
		return api.ErrMore
	case !form.MatchString(s):
		return api.ErrForm
	}
	return api.OK
}

// meant is what Decode is to answer: written down as the chapter's words go, from what is left of the text.
func meant(s string) (string, int, api.Errno) {
	body, rest := "", s
	for {
		if e := lineFault(rest, sizeForm); e != api.OK {
			return "", 0, e
		}
		parts := sizeForm.FindStringSubmatch(rest)
		size, _ := strconv.ParseUint(parts[1], 16, 64)
		rest = rest[len(parts[0]):]
		if size == 0 {
			break
		}
		if len(body)+int(size) > mostBody {
			return "", 0, api.ErrLong
		}
		if len(rest) < int(size)+2 {
			return "", 0, api.ErrMore
		}
		if rest[size:size+2] != "\r\n" {
			return "", 0, api.ErrForm
		}
		body, rest = body+rest[:size], rest[size+2:]
	}
	for fields := 0; !strings.HasPrefix(rest, "\r\n"); fields++ {
		if e := lineFault(rest, fieldForm); e != api.OK {
			return "", 0, e
		}
		if fields == mostFields {
			return "", 0, api.ErrMany
		}
		rest = rest[strings.Index(rest, "\n")+1:]
	}
	return body, len(s) - len(rest) + 2, api.OK
}

func want(t *testing.T, s, body string, n int, e api.Errno) {
	t.Helper()
	if got, m, f := Decode([]byte(s)); string(got) != body || m != n || f != e || f != api.OK && got != nil {
		t.Errorf("Decode of %s is %s, %d, %d, not %s, %d, %d", brief(s), brief(string(got)), m, f, brief(body), n, e)
	}
}

// wantBody: whatever stands behind; and less of it is ErrMore.
func wantBody(t *testing.T, s, body string) {
	t.Helper()
	for _, behind := range []string{"", "x", "\r\n", "\n", "0", "0\r\n\r\n", "\x00", s, xs(3 * mostLine)} {
		want(t, s+behind, body, len(s), api.OK)
	}
	if len(s) > 1000 {
		want(t, s[:len(s)-1], "", 0, api.ErrMore)
		return
	}
	for i := range len(s) {
		want(t, s[:i], "", 0, api.ErrMore)
	}
}

func wantError(t *testing.T, e api.Errno, ss ...string) {
	t.Helper()
	for _, s := range ss {
		want(t, s, "", 0, e)
	}
}

// Of P7.2.
func TestDecode(t *testing.T) {
	wantBody(t, "0\r\n\r\n", "")
	wantBody(t, "1\r\na\r\n0\r\n\r\n", "a")
	wantBody(t, "2\r\nab\r\n1\r\nc\r\n0\r\n\r\n", "abc")
	// Sizes: small and great digits, and noughts ahead.
	wantBody(t, "a\r\n0123456789\r\nB\r\n0123456789x\r\n0\r\n\r\n", "01234567890123456789x")
	wantBody(t, "00000001\r\na\r\n00000000\r\n\r\n", "a")
	wantBody(t, "0010\r\n0123456789abcdef\r\n00\r\n\r\n", "0123456789abcdef")
	wantBody(t, "1f\r\n"+xs(31)+"\r\n1F\r\n"+xs(31)+"\r\n0\r\n\r\n", xs(62))
	// Extensions.
	wantBody(t, "03 ;x=1\r\nabc\r\nA\r\n0123456789\r\n0;y\r\nT: v\r\n\r\n", "abc0123456789")
	wantBody(t, "1;\r\na\r\n0;\r\n\r\n", "a")
	wantBody(t, "1 \t ; \t \r\na\r\n0 \t;;;\r\n\r\n", "a")
	wantBody(t, "00000001;1\r\na\r\n00000000 ;0\r\n\r\n", "a")
	wantBody(t, "1;\"a\\\r\nb\r\n0;\xff\x80\t\xc3\xa9\r\n\r\n", "b")
	wantBody(t, "1;2;3\r\na\r\n0;5\r\n\r\n", "a")
	// Chunks of what ends lines, or begins chunks, elsewhere.
	wantBody(t, "2\r\n\r\n\r\n1\r\n\n\r\n1\r\n\r\r\n1\r\n\x00\r\n0\r\n\r\n", "\r\n\n\r\x00")
	wantBody(t, "5\r\n0\r\n\r\n\r\n0\r\n\r\n", "0\r\n\r\n")
	// Trailers, of which nothing is told.
	wantBody(t, "0\r\nA: b\r\n\r\n", "")
	wantBody(t, "1\r\na\r\n0\r\nA:b\r\na: \t \r\nA:\r\n!#: \t\xff\t x \t\r\nContent-Length: 7\r\n\r\n", "a")
}

// Of P7.2: what isn't whole has no fault yet.
func TestDecodeOfLess(t *testing.T) {
	wantError(t, api.ErrMore, "", "1", "z", "\r", " ", ";", "\x00", "123456789", "z\r", "FFFFFFFF", "FFFFFFFF\r", "1\r\n", "1\r\na", "1\r\na\r", "1\r\nab", "1\r\na\n", "1\r\na\x00", "2\r\nab", "1\r\na\r\n", "1\r\na\r\nz", "0\r\n", "0\r\n\r", "0\r\n\x00", "0\r\nA: b", "0\r\nA: b\r", "0\r\nA: b\r\n", "0\r\nA: b\r\n\r", "0\r\nno field", "100000\r\n", "100000\r\n"+xs(1000))
}

// Of P7.2.
func TestDecodeOfWrong(t *testing.T) {
	wantError(t, api.ErrForm,
		// Ends of size lines.
		"\n", "\r\n", "\r\r\n", "1\n", "1\na\n0\n\n", "0\n", "0\n\r\n", "1\r\r\n", "1\r \n", "\r1\r\n", "1\r;\n", "1;\r;\r\n", "1;\n", "1;x\n", "\n\r\n0\r\n\r\n", "\r\n0\r\n\r\n",
		// Digits.
		"g\r\n", "z\r\n", "-1\r\n", "+1\r\n", "0x1\r\n", "1h\r\n", "h1\r\n", "1x\r\n", "1_0\r\n", "1.\r\n", "1,\r\n", "1=\r\n", "1:\r\n", "\u0661\r\n", "\xff\r\n", "\x001\r\n",
		"123456789\r\n", "000000001\r\n", "000000000\r\n", "0000000000000000\r\n", "FFFFFFFFF\r\n", "10000000000000001\r\n",
		// Blanks.
		" \r\n", "\t\r\n", "1 \r\n", "1\t\r\n", " 1\r\n", "\t1\r\n", "1 2\r\n", "0 \r\n\r\n", " 0\r\n\r\n", " 1;x\r\n", "1 x;y\r\n", "1 1;y\r\n", "1 x\r\n", "0 0;\r\n",
		// Extensions.
		";\r\n", ";x\r\n", " ;x\r\n", "x;1\r\n", "1;\x00\r\n", "1;a\x7fb\r\n", "1;\x1b\r\n", "0;\x00\r\n\r\n", "1;\va\r\n", "1\v;a\r\n", "1\u00a0;a\r\n", "000000001;x\r\n",
		// What stands behind a chunk.
		"1\r\nab\r\n", "1\r\na\n\r", "1\r\na\n\n", "1\r\na\r\r\n", "1\r\na\rx", "1\r\na\nx", "1\r\nabc", "1\r\na0\r\n\r\n", "1\r\na  \r\n", "2\r\na\r\n0\r\n\r\n", "1\r\na\x00\x00", "1\r\n\r\n0\r\n\r\n", "1\r\na\n0\r\n\r\n",
		// The second chunk, and the last one.
		"1\r\na\r\n\r\n", "1\r\na\r\n0\n", "1\r\na\r\nz\r\n", "1\r\na\r\n 0\r\n\r\n", "1\r\na\r\n1 \r\na\r\n0\r\n\r\n",
		// Trailers' lines.
		"0\r\n\n", "0\r\n\r\r\n", "0\r\n \r\n", "0\r\na b\r\n", "0\r\na\r\n", "0\r\n:\r\n", "0\r\n: b\r\n", "0\r\n b: c\r\n\r\n", "0\r\na : b\r\n\r\n", "0\r\na: b\n", "0\r\na: b\n\r\n", "0\r\na: b\r\r\n", "0\r\na: \rb\r\n", "0\r\na: b\x00\r\n", "0\r\na: \x7f\r\n", "0\r\na(: b\r\n", "0\r\na: b\r\n c\r\n\r\n", "0\r\na: b\r\nc\r\n\r\n", "0\r\na: b\r\n0\r\n\r\n", "0\r\n0\r\n\r\n", "0\r\na: b\r\n\n", "0\r\n\x00\r\n\r\n",
	)
}

// Of P7.2: which octets a size line, its extension, and a trailer's line may have.
func TestDecodeOfOctets(t *testing.T) {
	for c := range 256 {
		o := one(c)
		if c == '\n' {
			continue
		}
		if d := strings.Index("0123456789abcdef0123456789ABCDEF", o); d >= 0 {
			d %= 16
			wantBody(t, "1"+o+"\r\n"+xs(16+d)+"\r\n0\r\n\r\n", xs(16+d))
		} else {
			wantError(t, api.ErrForm, o+"\r\n\r\n", o+"1\r\n\r\n")
		}
		fits := c >= ' ' && c != 127 || c == '\t'
		for _, s := range []string{o, o + "x", "x" + o, "x" + o + "x", " " + o + "\t"} {
			if fits {
				wantBody(t, "1;"+s+"\r\na\r\n0;"+s+"\r\nA:"+s+"\r\n\r\n", "a")
			} else {
				wantError(t, api.ErrForm, "1;"+s+"\r\na\r\n0\r\n\r\n", "0;"+s+"\r\n\r\n", "0\r\nA:"+s+"\r\n\r\n")
			}
		}
		if strings.Contains(tokens, o) {
			wantBody(t, "0\r\n"+o+": a\r\n\r\n", "")
		} else {
			wantError(t, api.ErrForm, "0\r\n"+o+"\r\n\r\n", "0\r\n"+o+"x: a\r\n\r\n", "0\r\nx"+o+": \x01\r\n\r\n")
		}
		// In place of each of a body's own.
		s := "1 ;\r\n!\r\n0\r\na: b\r\n\r\n"
		for i := range len(s) {
			s := s[:i] + o + s[i+1:]
			body, n, e := meant(s)
			want(t, s, body, n, e)
		}
	}
}

// Of P7.2: how long lines may be; which error comes first.
func TestDecodeOfLongLines(t *testing.T) {
	// With its end, a line of as many octets as one may have.
	wantBody(t, "1;"+xs(mostLine-4)+"\r\na\r\n0 ;"+xs(mostLine-5)+"\r\nA:"+xs(mostLine-4)+"\r\nB: "+xs(mostLine-5)+"\r\n\r\n", "a")
	wantBody(t, "1"+strings.Repeat(" ", mostLine-4)+";\r\na\r\n0\r\n"+xs(mostLine-3)+":\r\n\r\n", "a")
	// One more, or no end at all.
	for _, ahead := range []string{"", "1\r\na\r\n", "0\r\n", "0\r\na: b\r\n", "1;" + xs(mostLine-4) + "\r\na\r\n", "0;" + xs(mostLine-4) + "\r\n"} {
		for _, line := range []string{"1;", "A:", "", " ", "\x00"} {
			wantError(t, api.ErrLong, ahead+line+xs(mostLine-1-len(line))+"\r\n\r\n", ahead+line+xs(mostLine-len(line)), ahead+line+xs(mostLine-len(line))+"\n", ahead+line+xs(mostLine+1), ahead+line+xs(10*mostLine)+"\r\n\r\n")
			wantError(t, api.ErrMore, ahead+line+xs(mostLine-1-len(line)), ahead+line+xs(mostLine-2-len(line))+"\r")
		}
		// Wrong, and just not too long.
		wantError(t, api.ErrForm, ahead+xs(mostLine-1)+"\n", ahead+xs(mostLine-2)+"\r\n", ahead+"1;"+xs(mostLine-3)+"\n", ahead+"A:"+xs(mostLine-3)+"\n", ahead+strings.Repeat("1", mostLine-2)+"\r\n")
	}
	wantError(t, api.ErrLong, strings.Repeat("1", mostLine), strings.Repeat("\r", mostLine), strings.Repeat("0", mostLine)+"\r\n\r\n")
	// What a chunk has isn't a line.
	wantBody(t, chunkOf(xs(10*mostLine))+"0\r\n\r\n", xs(10*mostLine))
}

// Of P7.2: how many lines a trailer may have.
func TestDecodeOfManyLines(t *testing.T) {
	many := "0\r\n" + strings.Repeat("a: b\r\n", mostFields)
	wantBody(t, many+"\r\n", "")
	wantBody(t, "0\r\n"+strings.Repeat(xs(mostLine-3)+":\r\n", mostFields)+"\r\n", "")
	wantError(t, api.ErrMany, many+"a: b\r\n", many+"a:\r\n\r\n", many+"a: b\r\na b\r\n", many+"c:d\r\n\r\n0\r\n\r\n", many+"a: b\r\n"+xs(mostLine), "1\r\na\r\n"+many+"a: b\r\n", many+"A:"+xs(mostLine-4)+"\r\n")
	wantError(t, api.ErrMore, many, many+"a", many+"a: b", many+"a: b\r", many+"\r")
	wantError(t, api.ErrForm, many+"a b\r\n", many+"a: b\n", many+" \r\n", many+"\n")
	wantError(t, api.ErrLong, many+xs(mostLine), many+"A:"+xs(mostLine-3)+"\r\n")
}

// Of P7.2: how much all chunks may have together.
func TestDecodeOfGreat(t *testing.T) {
	whole := xs(mostBody)
	wantBody(t, chunkOf(whole)+"0\r\n\r\n", whole)
	wantBody(t, "00100000;x\r\n"+whole+"\r\n0\r\n\r\n", whole)
	wantBody(t, chunkOf(whole[1:])+"1\r\ny\r\n0\r\n\r\n", whole[1:]+"y")
	wantBody(t, strings.Repeat(chunkOf(whole[:mostBody/16]), 16)+"0\r\n\r\n", whole)
	wantError(t, api.ErrLong,
		"100001\r\n", "100001;x\r\n"+whole, "FFFFFFFF\r\n", "ffffffff \t;\r\n", "80000000\r\n", "7FFFFFFF\r\n", "00200000\r\n",
		chunkOf(whole)+"1\r\n", chunkOf(whole)+"1\r\na\r\n0\r\n\r\n", chunkOf(whole)+"100000\r\n", chunkOf(whole)+"FFFFFFFF\r\n", chunkOf("a")+"100000\r\n", chunkOf("a")+"FFFFFFFF\r\n", strings.Repeat(chunkOf(whole[:mostBody/16]), 16)+"00000001;\r\n")
	wantError(t, api.ErrMore, "100000\r\n", chunkOf("a")+"fffff\r\n", chunkOf(whole), chunkOf(whole)+"1", chunkOf(whole)+"1\r")
	// Wrong, and too long; and what comes ahead of what is too long.
	wantError(t, api.ErrForm, "FFFFFFFF\n", "FFFFFFFF \r\n", "100001;\x00\r\n", "FFFFFFFFF\r\n", chunkOf(whole)+"1\n", chunkOf(whole)+" 1\r\n", "1\r\nabcFFFFFFFF\r\n")
}

// Of P7.2: all short texts, against what the chapter's words come to.
func TestDecodeOfAll(t *testing.T) {
	good := 0
	all := texts(7, "0", "1", "\r", "\n", ";", "a")
	all = append(all, texts(6, "0\r\n", "1\r\n", "2", "\r\n", "\r", "a:", " ", "\n")...)
	for _, s := range texts(5, "0", "1", "a", "\r", "\n", ":", ";", " ", "\x00") {
		all = append(all, s+"\r\n", "1"+s+"\r\na\r\n0\r\n\r\n", "2\r\n"+s+"\r\n0\r\n\r\n", "0"+s+"\r\n\r\n", "0\r\n"+s+"\r\n\r\n")
	}
	for _, s := range all {
		body, n, e := meant(s)
		want(t, s, body, n, e)
		if e == api.OK {
			good++
		}
		if t.Failed() {
			return
		}
	}
	if good < 10000 {
		t.Errorf("%d bodies: too few to tell", good)
	}
}

// A step is what is fed, and what is to be told of it.
type step struct {
	b, body string
	n       int
	done    bool
	e       api.Errno
}

func (s step) want(t *testing.T, d *Decoder) {
	t.Helper()
	body, n, done, e := d.Feed([]byte(s.b))
	if string(body) != s.body || n != s.n || done != s.done || e != s.e || e != api.OK && body != nil {
		t.Errorf("Feed(%s) is %s, %d, %t, %d, not %s, %d, %t, %d", brief(s.b), brief(string(body)), n, done, e, brief(s.body), s.n, s.done, s.e)
	}
}

// Of P7.1: what is taken of what comes, and what is left to come again.
func TestFeed(t *testing.T) {
	d := New()
	for _, s := range []step{
		{}, {b: "0"}, {b: "05 ;x\r"}, {b: "05 ;x\r\nab", body: "ab", n: 9}, {}, {b: "c", body: "c", n: 1}, {b: "de\r", body: "de", n: 2}, {b: "\r"}, {b: "\r\n", n: 2},
		{b: "1\r\na\r\n1", body: "a", n: 6}, {b: "1\r\n", n: 3}, {b: "b", body: "b", n: 1}, {b: "\r\n3", n: 2}, {b: "3\r\nx", body: "x", n: 4}, {b: "y", body: "y", n: 1}, {b: "z\r\n1\r\nw\r\n0", body: "zw", n: 9},
		{b: "0;y\r\n", n: 5}, {b: "T"}, {b: "T: v\r\nU", n: 6}, {b: "U: \r"}, {b: "U: \r\n\r", n: 5}, {b: "\r"}, {b: "\r\nx", n: 2, done: true},
		{done: true}, {b: "x", done: true}, {b: "1\r\na\r\n", done: true}, {b: "\x00\n", done: true}, {b: xs(3 * mostLine), done: true},
	} {
		s.want(t, d)
	}
	d = New()
	step{b: "2\r\nab\r\n1\r\nc\r\n0\r\n\r\nx", body: "abc", n: 18, done: true}.want(t, d)
	step{b: "z\r\n", done: true}.want(t, d)
	// Two that don't touch one another.
	d, other := New(), New()
	step{b: "2\r\na", body: "a", n: 4}.want(t, d)
	step{b: "0\r\n\r\n", n: 5, done: true}.want(t, other)
	step{b: "b\r\n", body: "b", n: 3}.want(t, d)
}

// Of P7.1: an error takes and tells nothing, not even what stands ahead of it, and stays.
func TestFeedOfWrong(t *testing.T) {
	long := chunkOf(xs(mostBody))
	for _, c := range []struct {
		first []step
		wrong string
		e     api.Errno
	}{
		{nil, "z\r\n", api.ErrForm},
		{nil, "1\r\na\r\nz\r\n", api.ErrForm},
		{nil, "1\r\nab\r\n", api.ErrForm},
		{nil, "1\r\na\r\n0\r\nA: b\r\nno\r\n\r\n", api.ErrForm},
		{nil, xs(mostLine), api.ErrLong},
		{nil, "1\r\na\r\n" + xs(mostLine), api.ErrLong},
		{nil, "1\r\na\r\n100000\r\n", api.ErrLong},
		{nil, "0\r\n" + strings.Repeat("a:\r\n", mostFields+1), api.ErrMany},
		{[]step{{b: "2\r\na", body: "a", n: 4}}, "bc\r\n", api.ErrForm},
		{[]step{{b: "1\r\na\r", body: "a", n: 4}, {b: "\r"}}, "\r\r", api.ErrForm},
		{[]step{{b: "1\r\na", body: "a", n: 4}, {b: "x"}}, "xy", api.ErrForm},
		{[]step{{b: long, body: xs(mostBody), n: len(long)}}, "1\r\n", api.ErrLong},
		{[]step{{b: "0\r\n" + strings.Repeat("a:\r\n", mostFields), n: 3 + 4*mostFields}, {b: "a:\r"}}, "a:\r\n", api.ErrMany},
		{[]step{{b: xs(mostLine - 1)}}, xs(mostLine), api.ErrLong},
		{[]step{{b: "0\r\n" + xs(mostLine-1), n: 3}}, xs(mostLine-1) + "\r\n", api.ErrLong},
		{[]step{{b: xs(mostLine - 1)}}, xs(mostLine-1) + "\n", api.ErrForm},
	} {
		d := New()
		for _, s := range c.first {
			s.want(t, d)
		}
		for _, b := range []string{c.wrong, c.wrong, "", "0\r\n\r\n", "\r\n", "1\r\na\r\n0\r\n\r\n", "z\r\n", xs(mostLine), "x"} {
			step{b: b, e: c.e}.want(t, d)
		}
	}
}

// feedAll feeds a text, cut at all these places, what wasn't taken ahead: what is told of it, as Decode would tell it.
func feedAll(t *testing.T, s string, cuts ...int) (string, int, api.Errno) {
	t.Helper()
	d := New()
	var told []byte
	n, ended := 0, false
	for _, to := range append(cuts, len(s)) {
		body, m, done, e := d.Feed([]byte(s[n:to]))
		if e != api.OK {
			if body != nil || m != 0 || done {
				t.Errorf("%s, cut at %v: %s, %d, %t beside %d", brief(s), cuts, brief(string(body)), m, done, e)
			}
			return "", 0, e
		}
		if m > to-n || ended && (m > 0 || len(body) > 0 || !done) {
			t.Fatalf("%s, cut at %v: %d taken of %d, %s told, %t", brief(s), cuts, m, to-n, brief(string(body)), done)
		}
		told, n, ended = append(told, body...), n+m, done
	}
	if !ended {
		return "", 0, api.ErrMore
	}
	return string(told), n, api.OK
}

func wantPieces(t *testing.T, s string, cuts ...int) {
	t.Helper()
	body, n, e := Decode([]byte(s))
	if got, m, f := feedAll(t, s, cuts...); got != string(body) || m != n || f != e {
		t.Errorf("%s, cut at %v: %s, %d, %d, not %s, %d, %d", brief(s), cuts, brief(got), m, f, brief(string(body)), n, e)
	}
}

// Of P7.4: all cuts of some short texts, and one and two cuts of longer ones.
func TestPieces(t *testing.T) {
	for _, s := range []string{"1\r\na\r\n0\r\n\r\n", "2\r\nab\r\n0\r\n\r\n", "0\r\na:\r\n\r\nxyz", "1\r\nab\r\n0\r\n\r\n", "1\r\na\r\nz\r\n\r\n", "3;\r\nabc\r\n0\r\n", "0\r\na:\r\nb\r\n\r\n", "0\n\r\n"} {
		for bits := range 1 << len(s) {
			var cuts []int
			for i := range len(s) {
				if bits>>i&1 == 1 {
					cuts = append(cuts, i)
				}
			}
			wantPieces(t, s, cuts...)
		}
	}
	line := strings.Repeat("0", 7) + "1;" + xs(mostLine-11) + "\r\n"
	for _, s := range []string{"03 ;x=1\r\nabc\r\nA\r\n0123456789\r\n0;y\r\nT: v\r\n\r\nrest", "5\r\nab\r\n0\r\n0\r\n\r\n", "5\r\n\r\n\r\n\r\r\n00\r\na: b\r\nb:c\r\n\r\n\r\n", line + "a\r\n0\r\n\r\n", line + "ab\r\n0\r\n\r\n", "0\r\na:" + xs(mostLine-3) + "\r\n\r\n", "0\r\n" + strings.Repeat("a:\r\n", 20) + "no\r\n\r\n"} {
		for i := range len(s) + 1 {
			for j := i; j <= len(s); j++ {
				wantPieces(t, s, i, j)
			}
		}
	}
}

// Of P7.4: pieces of one length, of texts right and wrong; octet by octet all short ones.
func TestPiecesOfAll(t *testing.T) {
	step := func(s string, by int) (cuts []int) {
		for i := by; i < len(s); i += by {
			cuts = append(cuts, i)
		}
		return
	}
	many := strings.Repeat("a: b\r\n", mostFields)
	great := chunkOf(xs(3000)) + chunkOf(xs(1)) + chunkOf("\r\n"+xs(700)) + "0;" + xs(200) + "\r\n"
	for _, s := range []string{great + "\r\nx", great + many + "\r\n", great + many + "a: b\r\n", great + "x\r\n", great + xs(1000), strings.Replace(great, "1\r\nx", "2\r\nx", 1), chunkOf("a") + "100000\r\nabc", xs(1000)} {
		for by := 1; by < 600; by++ {
			wantPieces(t, s, step(s, by)...)
		}
	}
	for _, s := range texts(6, "0\r\n", "1", "\r\n", "\r", "a:", "\n") {
		wantPieces(t, s, step(s, 1)...)
		wantPieces(t, s, step(s, 2)...)
		if t.Failed() {
			return
		}
	}
	whole := chunkOf(xs(mostBody/2)) + chunkOf(xs(mostBody/2))
	for _, s := range []string{whole + "0\r\n\r\n", whole + "1\r\na\r\n0\r\n\r\n"} {
		for _, by := range []int{4096, 65537, mostBody} {
			wantPieces(t, s, step(s, by)...)
		}
	}
}

func list(ss ...string) [][]byte {
	var bs [][]byte
	for _, s := range ss {
		bs = append(bs, []byte(s))
	}
	return bs
}

// Of P7.3.
func TestEncode(t *testing.T) {
	wantText := func(want string, pieces ...[]byte) {
		t.Helper()
		if got := Encode(pieces...); string(got) != want {
			t.Errorf("Encode of %q is %q, not %q", pieces, got, want)
		}
	}
	last := "0\r\n\r\n"
	wantText(last)
	wantText(last, nil)
	wantText(last, []byte{})
	wantText(last, nil, []byte{}, nil)
	wantText("2\r\nab\r\n1\r\nc\r\n"+last, list("ab", "", "c")...)
	wantText("1\r\na\r\n1\r\na\r\n"+last, list("", "a", "", "", "a", "")...)
	wantText("10\r\n0123456789abcdef\r\n1\r\nx\r\n"+last, list("0123456789abcdef", "x")...)
	wantText("5\r\n"+last+"\r\n2\r\n\r\n\r\n1\r\n\x00\r\n2\r\n\xff\x80\r\n"+last, list(last, "\r\n", "\x00", "\xff\x80")...)
	for n, digits := range map[int]string{1: "1", 9: "9", 10: "a", 15: "f", 16: "10", 17: "11", 171: "ab", 255: "ff", 256: "100", 4095: "fff", 43981: "abcd", 65536: "10000", mostBody - 1: "fffff", mostBody: "100000", 11259375: "abcdef"} {
		if got := Encode([]byte(xs(n))); string(got) != digits+"\r\n"+xs(n)+"\r\n"+last {
			t.Errorf("Encode of %d octets is %s", n, brief(string(got)))
		}
	}
}

// Of P7.4: of rows of pieces, whole and octet by octet, whatever stands behind.
func TestDecodeOfEncode(t *testing.T) {
	row := func(pieces ...string) {
		t.Helper()
		b := string(Encode(list(pieces...)...))
		wantBody(t, b, strings.Join(pieces, ""))
		wantPieces(t, b, len(b)/3, len(b)/2)
	}
	some := []string{"", "a", "\r\n", "0\r\n\r\n", "1\r\nb\r\n", xs(16), "\xff;", strings.Repeat("\x00", 300)}
	row()
	for _, a := range some {
		row(a)
		for _, b := range some {
			row(a, b)
			for _, c := range some {
				row(a, b, c)
			}
		}
	}
	row(xs(mostBody))
	row(xs(mostBody/2), "", "y", xs(mostBody/2-1))
	row(strings.Split(strings.Repeat("ab,", 5000), ",")...)
	random := rand.New(rand.NewSource(1))
	for range 200 {
		var pieces []string
		for range random.Intn(20) {
			b := make([]byte, random.Intn(40)*random.Intn(40))
			random.Read(b)
			pieces = append(pieces, string(b))
		}
		row(pieces...)
	}
	// More than a body may have is written, but not read.
	wantError(t, api.ErrLong, string(Encode([]byte(xs(mostBody+1)))), string(Encode(list(xs(mostBody), "y")...)))
}

// overlap: do octets share memory, with their spare room?
func overlap(a, b []byte) bool {
	if cap(a) == 0 || cap(b) == 0 {
		return false
	}
	p, q := uintptr(unsafe.Pointer(unsafe.SliceData(a))), uintptr(unsafe.Pointer(unsafe.SliceData(b)))
	return p < q+uintptr(cap(b)) && q < p+uintptr(cap(a))
}

// Of P7.4: what is handed in has room behind it, and is cut at each place; it is neither changed nor kept.
func TestNewMemory(t *testing.T) {
	for _, s := range []string{"2 ;x\r\nab\r\n1\r\nc\r\n0\r\nT: v\r\nU:\r\n\r\nrest", "1\r\nab\r\n", "1\r\na\r\n0\r\nno\r\n", "0\r\n\r\n"} {
		for i := range len(s) + 1 {
			room := []byte(s + "behind it stands this")
			was := slices.Clone(room)
			d := New()
			first, n, _, _ := d.Feed(room[:i])
			kept := string(first)
			if overlap(first, room) || !bytes.Equal(room, was) {
				t.Errorf("Feed(%q) shares or changes: %q", s[:i], room)
			}
			clear(room)
			again := slices.Clone(was)
			second, m, done, e := d.Feed(again[n:len(s)])
			if overlap(second, again) || overlap(first, second) || !bytes.Equal(again, was) || string(first) != kept {
				t.Errorf("Feed(%q) behind %q shares or changes: %q", s[n:], s[:n], again)
			}
			body, all, f := Decode([]byte(s))
			if e != f || e == api.OK && (n+m != all || kept+string(second) != string(body) || !done) {
				t.Errorf("%q, then %q: %q, %d, %t, %d", s[:n], s[n:], kept+string(second), n+m, done, e)
			}
		}
		room := []byte(s + "behind it stands this")
		was := slices.Clone(room)
		body, _, _ := Decode(room[:len(s)])
		kept := string(body)
		if overlap(body, room) || !bytes.Equal(room, was) {
			t.Errorf("Decode(%q) shares or changes: %q", s, room)
		}
		clear(room)
		if string(body) != kept {
			t.Errorf("Decode(%q): %q became %q", s, kept, body)
		}
	}
	room := list("abc", "", "d", "spare")
	pieces := [][]byte{room[0][:2], room[1], room[2]}
	first, again := Encode(pieces...), Encode(pieces...)
	clear(first[:cap(first)])
	if string(again) != "2\r\nab\r\n1\r\nd\r\n0\r\n\r\n" || !slices.EqualFunc(room, list("abc", "", "d", "spare"), bytes.Equal) {
		t.Errorf("Encode keeps or changes: %q, %q", again, room)
	}
	for _, p := range pieces {
		if overlap(p, again) {
			t.Errorf("Encode shares the memory of %q", p)
		}
	}
}
