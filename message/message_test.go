package message

import (
	"bytes"
	"fmt"
	"math/rand"
	"slices"
	"strconv"
	"strings"
	"testing"

	"icehouse/api"
	"icehouse/chunk"
	"icehouse/field"
	"icehouse/start"
)

const (
	mostHead   = 65536
	mostFields = 128
	mostBody   = 1048576
	// How many octets are looked at for a first line's end.
	mostAsked    = 8201
	mostAnswered = 301

	inChunks = "Transfer-Encoding: chunked"
	last     = "0\r\n\r\n"
)

func xs(n int) string { return strings.Repeat("x", n) }

func brief(x any) string {
	s := fmt.Sprintf("%q", x)
	if len(s) > 160 {
		return fmt.Sprintf("%s .. %s (%d)", s[:100], s[len(s)-40:], len(s))
	}
	return s
}

// texts is all texts of at most so many of the pieces.
func texts(most int, pieces ...string) []string {
	all := []string{""}
	for from := 0; most > 0; most-- {
		to := len(all)
		for _, s := range all[from:to] {
			for _, piece := range pieces {
				all = append(all, s+piece)
			}
		}
		from = to
	}
	return all
}

// fields are those that lines say: a name, a colon, a value.
func fields(lines ...string) []api.Field {
	var fs []api.Field
	for _, line := range lines {
		name, value, _ := strings.Cut(line, ":")
		fs = append(fs, api.Field{Name: name, Value: strings.TrimPrefix(value, " ")})
	}
	return fs
}

func asked(minor int, body string, lines ...string) api.Message {
	return api.Message{Start: api.Start{Method: "PUT", Target: "/x", Minor: minor}, Fields: fields(lines...), Body: []byte(body)}
}

func answered(status, minor int, body string, lines ...string) api.Message {
	return api.Message{Start: api.Start{Status: status, Reason: "So it is", Minor: minor}, Fields: fields(lines...), Body: []byte(body)}
}

func same(a, b api.Message) bool {
	return a.Start == b.Start && slices.Equal(a.Fields, b.Fields) && bytes.Equal(a.Body, b.Body)
}

func zero(m api.Message) bool { return same(m, api.Message{}) }

// pieces are what stands between all values' commas, without blanks. Of quotation marks it knows nothing: with one in it a piece is neither digits nor a coding, wherever it is cut.
func pieces(values []string) []string {
	var all []string
	for _, piece := range strings.Split(strings.Join(values, ","), ",") {
		if piece = strings.Trim(piece, " \t"); piece != "" {
			all = append(all, piece)
		}
	}
	return all
}

// meantLength is what the values of content-length say.
func meantLength(values []string) (int, int, api.Errno) {
	all := pieces(values)
	if len(all) == 0 {
		return 0, 0, api.ErrForm
	}
	for _, piece := range all {
		if piece != all[0] || strings.Trim(piece, "0123456789") != "" {
			return 0, 0, api.ErrForm
		}
	}
	digits := strings.TrimLeft(all[0], "0")
	n, _ := strconv.Atoi("0" + digits)
	if len(digits) > 7 || n > mostBody {
		return 0, 0, api.ErrLong
	}
	return api.Sized, n, api.OK
}

// meantFraming is what Framing is to answer: written down as the chapter's words go.
func meantFraming(m api.Message, method string) (int, int, api.Errno) {
	values := map[string][]string{}
	for _, f := range m.Fields {
		name := strings.ToLower(f.Name)
		values[name] = append(values[name], f.Value)
	}
	response := m.Status != 0
	if response && (method == "HEAD" || m.Status < 200 || m.Status == 204 || m.Status == 304) {
		return api.NoBody, 0, api.OK
	}
	codings, coded := values["transfer-encoding"]
	lengths, sized := values["content-length"]
	switch {
	case coded:
		if m.Minor == 0 || sized || len(pieces(codings)) != 1 || strings.ToLower(pieces(codings)[0]) != "chunked" {
			return 0, 0, api.ErrForm
		}
		return api.Chunked, 0, api.OK
	case sized:
		return meantLength(lengths)
	case response:
		return 0, 0, api.ErrForm
	}
	return api.NoBody, 0, api.OK
}

// meant is what Parse is to answer: by the layers below, one behind the other.
func meant(s string, asks bool, method string) (m api.Message, n int, e api.Errno) {
	read := start.Response
	if asks {
		read = start.Request
	}
	line, n, e := read([]byte(s))
	if e != api.OK {
		return m, 0, e
	}
	fs, size, e := field.Parse([]byte(s[n:]))
	if e != api.OK {
		return m, 0, e
	}
	whole := api.Message{Start: line, Fields: fs}
	n += size
	kind, length, e := meantFraming(whole, method)
	switch {
	case e != api.OK:
		return m, 0, e
	case kind == api.Chunked:
		body, size, e := chunk.Decode([]byte(s[n:]))
		if e != api.OK {
			return m, 0, e
		}
		whole.Body = body
		return whole, n + size, api.OK
	case len(s) < n+length:
		return m, 0, api.ErrMore
	}
	whole.Body = []byte(s[n : n+length])
	return whole, n + length, api.OK
}

func wantFraming(t *testing.T, m api.Message, method string, kind, n int, e api.Errno) {
	t.Helper()
	if k, got, f := Framing(m, method); k != kind || got != n || f != e {
		t.Errorf("Framing of %s, %q is %d, %d, %d, not %d, %d, %d", brief(m), method, k, got, f, kind, n, e)
	}
}

// Of P8.1: a request's, and a response's that may have a body.
func TestFraming(t *testing.T) {
	for _, c := range []struct {
		lines   string
		kind, n int
		e       api.Errno
	}{
		{"Content-Length: 0", api.Sized, 0, api.OK},
		{"Content-Length: 3", api.Sized, 3, api.OK},
		{"CONTENT-length: 0012", api.Sized, 12, api.OK},
		{"a: b|content-length:7|c: d", api.Sized, 7, api.OK},
		{"Content-Length: 1048576", api.Sized, mostBody, api.OK},
		{"Content-Length: 5, 5", api.Sized, 5, api.OK},
		{"Content-Length: ,5 ,\t, 5,", api.Sized, 5, api.OK},
		{"Content-Length: 1, 1|x: y|content-length: 1", api.Sized, 1, api.OK},
		{"Content-Length: |Content-Length: 6", api.Sized, 6, api.OK},
		{"Content-Length: 1048577", 0, 0, api.ErrLong},
		{"Content-Length: 1048577, 1048577", 0, 0, api.ErrLong},
		{"Content-Length: 99999999999999999999999999", 0, 0, api.ErrLong},
		{"Content-Length: 18446744073709551617", 0, 0, api.ErrLong},
		{"Content-Length: ", 0, 0, api.ErrForm},
		{"Content-Length: ,", 0, 0, api.ErrForm},
		{"Content-Length: 5, 05", 0, 0, api.ErrForm},
		{"Content-Length: 5, 6", 0, 0, api.ErrForm},
		{"Content-Length: 5|Content-Length: 6", 0, 0, api.ErrForm},
		{"Content-Length: 5, 6, 5", 0, 0, api.ErrForm},
		{"Content-Length: 5, 5, 6", 0, 0, api.ErrForm},
		{"Content-Length: 9999999, 9999998", 0, 0, api.ErrForm},
		{"Content-Length: 9999999, x", 0, 0, api.ErrForm},
		{"Content-Length: x, x", 0, 0, api.ErrForm},
		{"Content-Length: +5", 0, 0, api.ErrForm},
		{"Content-Length: -5", 0, 0, api.ErrForm},
		{"Content-Length: 5 5", 0, 0, api.ErrForm},
		{"Content-Length: \"5\"", 0, 0, api.ErrForm},
		{"Content-Length: \"5, 5\"", 0, 0, api.ErrForm},
		{"Content-Length: 5;x", 0, 0, api.ErrForm},
		{"Content-Length: 0x5", 0, 0, api.ErrForm},
		{"Content-Length: a", 0, 0, api.ErrForm},
		{"Content-Length: 5.", 0, 0, api.ErrForm},
		{"Transfer-Encoding: chunked", api.Chunked, 0, api.OK},
		{"transfer-ENCODING: ChuNKed", api.Chunked, 0, api.OK},
		{"a: b|Transfer-Encoding: , chunked ,,|c: d", api.Chunked, 0, api.OK},
		{"Transfer-Encoding: |Transfer-Encoding: chunked", api.Chunked, 0, api.OK},
		{"Transfer-Encoding: ", 0, 0, api.ErrForm},
		{"Transfer-Encoding: ,", 0, 0, api.ErrForm},
		{"Transfer-Encoding: gzip", 0, 0, api.ErrForm},
		{"Transfer-Encoding: identity", 0, 0, api.ErrForm},
		{"Transfer-Encoding: gzip, chunked", 0, 0, api.ErrForm},
		{"Transfer-Encoding: gzip|Transfer-Encoding: chunked", 0, 0, api.ErrForm},
		{"Transfer-Encoding: chunked, chunked", 0, 0, api.ErrForm},
		{"Transfer-Encoding: chunked|Transfer-Encoding: chunked", 0, 0, api.ErrForm},
		{"Transfer-Encoding: chunked;x", 0, 0, api.ErrForm},
		{"Transfer-Encoding: \"chunked\"", 0, 0, api.ErrForm},
		{"Transfer-Encoding: xchunked", 0, 0, api.ErrForm},
		{"Transfer-Encoding: chunke", 0, 0, api.ErrForm},
		{"Transfer-Encoding: chun\u212aed", 0, 0, api.ErrForm},
		{"Content-Length: 5|Transfer-Encoding: chunked", 0, 0, api.ErrForm},
		{"Transfer-Encoding: chunked|Content-Length: 5", 0, 0, api.ErrForm},
		{"Transfer-Encoding: chunked|Content-Length: ", 0, 0, api.ErrForm},
		{"Transfer-Encoding: chunked|Content-Length: 9999999", 0, 0, api.ErrForm},
		{"Transfer-Encoding: |Content-Length: 5", 0, 0, api.ErrForm},
	} {
		for _, method := range []string{"", "GET", "PUT", "head", "HEAD ", "Head", "CONNECT"} {
			for minor := range 2 {
				kind, n, e := c.kind, c.n, c.e
				if kind == api.Chunked && minor == 0 {
					kind, n, e = 0, 0, api.ErrForm
				}
				lines := strings.Split(c.lines, "|")
				wantFraming(t, asked(minor, "", lines...), method, kind, n, e)
				wantFraming(t, asked(minor, "some", lines...), "HEAD", kind, n, e)
				for _, status := range []int{200, 201, 203, 205, 206, 303, 305, 404, 500, 999, 1000} {
					wantFraming(t, answered(status, minor, "some", lines...), method, kind, n, e)
				}
				for _, status := range []int{-1, 1, 100, 101, 199, 204, 304} {
					wantFraming(t, answered(status, minor, "some", lines...), method, api.NoBody, 0, api.OK)
				}
				wantFraming(t, answered(200, minor, "some", lines...), "HEAD", api.NoBody, 0, api.OK)
			}
		}
	}
}

// Of P8.1: where no field tells of the body.
func TestFramingOfNone(t *testing.T) {
	for _, lines := range [][]string{nil, {"a: b"}, {"Content: 5", "Length: 5", "Content-Length : 5", "Transfer_Encoding: chunked", "TE: chunked", ""}} {
		for minor := range 2 {
			for _, method := range []string{"", "GET", "HEAD", "head", "POST"} {
				wantFraming(t, asked(minor, "some", lines...), method, api.NoBody, 0, api.OK)
				for status := -10; status < 1100; status++ {
					m := answered(status, minor, "", lines...)
					switch {
					case status == 0 || method == "HEAD" || status < 200 || status == 204 || status == 304:
						wantFraming(t, m, method, api.NoBody, 0, api.OK)
					default:
						wantFraming(t, m, method, 0, 0, api.ErrForm)
					}
				}
			}
		}
	}
	wantFraming(t, api.Message{}, "", api.NoBody, 0, api.OK)
	wantFraming(t, api.Message{}, "HEAD", api.NoBody, 0, api.OK)
}

// Of P8.1: all short values, one and two of them, against what the chapter's words come to.
func TestFramingOfAll(t *testing.T) {
	good := 0
	check := func(lines ...string) {
		t.Helper()
		for minor := range 2 {
			for _, m := range []api.Message{asked(minor, "", lines...), answered(200, minor, "", lines...)} {
				kind, n, e := meantFraming(m, "GET")
				wantFraming(t, m, "GET", kind, n, e)
				if e == api.OK {
					good++
				}
			}
		}
	}
	for _, a := range texts(4, "0", "12", ",", " ", "\"", "\\", "x") {
		check("Content-Length: " + a)
		check("Content-Length: 12", "content-length: "+a)
		check("Transfer-Encoding: " + a + "chunked")
		check("Transfer-Encoding: chunked"+a, "a: b")
	}
	some := texts(3, "1", "chunked", ",", " ", "\"")
	for _, a := range some {
		for _, b := range some {
			check("Content-Length: "+a, "content-length: "+b)
			check("Transfer-Encoding: "+a, "transfer-encoding: "+b)
			check("Transfer-Encoding: "+a, "Content-Length: "+b)
		}
	}
	for n := mostBody - 3; n < mostBody+4; n++ {
		check("Content-Length: " + strconv.Itoa(n))
		check("Content-Length: 000" + strconv.Itoa(n))
	}
	for bits := range 1 << len("chunked") {
		b := []byte("chunked")
		for i := range b {
			if bits>>i&1 == 1 {
				b[i] -= 32
			}
		}
		check("Transfer-Encoding: " + string(b))
	}
	if good < 1000 {
		t.Errorf("%d framings without an error: too few to tell", good)
	}
}

// wantPrint: also of Right, which is true where there is a text; and of Parse of it.
func wantPrint(t *testing.T, m api.Message, method, want string) {
	t.Helper()
	b, e := Print(m, method)
	if string(b) != want || e != api.OK {
		t.Errorf("Print of %s, %q is %s, %d, not %s", brief(m), method, brief(b), e, brief(want))
		return
	}
	if !Right(m, method) {
		t.Errorf("Right of %s, %q is false", brief(m), method)
	}
	wantMessage(t, want, m.Status == 0, method, m)
}

func wantWrong(t *testing.T, method string, ms ...api.Message) {
	t.Helper()
	for _, m := range ms {
		if b, e := Print(m, method); b != nil || e != api.ErrForm {
			t.Errorf("Print of %s, %q is %s, %d", brief(m), method, brief(b), e)
		}
		if Right(m, method) {
			t.Errorf("Right of %s, %q is true", brief(m), method)
		}
	}
}

// Of P8.1, and P8.4.
func TestPrint(t *testing.T) {
	wantPrint(t, asked(1, ""), "", "PUT /x HTTP/1.1\r\n\r\n")
	wantPrint(t, asked(0, "", "a: b", "C:"), "HEAD", "PUT /x HTTP/1.0\r\na: b\r\nC: \r\n\r\n")
	wantPrint(t, asked(1, "abc", "content-LENGTH: 03"), "HEAD", "PUT /x HTTP/1.1\r\ncontent-LENGTH: 03\r\n\r\nabc")
	wantPrint(t, asked(1, "", "Content-Length: 0"), "", "PUT /x HTTP/1.1\r\nContent-Length: 0\r\n\r\n")
	wantPrint(t, asked(0, "\r\n", "Content-Length: 2, 2", "Content-Length: 2"), "", "PUT /x HTTP/1.0\r\nContent-Length: 2, 2\r\nContent-Length: 2\r\n\r\n\r\n")
	wantPrint(t, asked(1, "", inChunks), "", "PUT /x HTTP/1.1\r\nTransfer-Encoding: chunked\r\n\r\n0\r\n\r\n")
	wantPrint(t, asked(1, "0123456789", inChunks, "a: b"), "", "PUT /x HTTP/1.1\r\nTransfer-Encoding: chunked\r\na: b\r\n\r\na\r\n0123456789\r\n0\r\n\r\n")
	wantPrint(t, answered(200, 1, "ab", "Content-Length: 2"), "GET", "HTTP/1.1 200 So it is\r\nContent-Length: 2\r\n\r\nab")
	wantPrint(t, answered(500, 0, "", "Content-Length: 0"), "", "HTTP/1.0 500 So it is\r\nContent-Length: 0\r\n\r\n")
	wantPrint(t, answered(200, 1, last, "transfer-encoding: ,Chunked"), "PUT", "HTTP/1.1 200 So it is\r\ntransfer-encoding: ,Chunked\r\n\r\n5\r\n0\r\n\r\n\r\n0\r\n\r\n")
	// Without a body, whatever the fields tell.
	for _, status := range []int{100, 101, 199, 204, 304} {
		for _, method := range []string{"", "GET", "HEAD"} {
			for _, line := range []string{"a: b", "Content-Length: 7", "Content-Length: x", "Content-Length: 9999999", inChunks, "Transfer-Encoding: x"} {
				for minor := range 2 {
					wantPrint(t, answered(status, minor, "", line), method, fmt.Sprintf("HTTP/1.%d %d So it is\r\n%s\r\n\r\n", minor, status, line))
					wantWrong(t, method, answered(status, minor, "x", line), answered(status, minor, xs(7), line))
				}
			}
		}
	}
	wantPrint(t, answered(200, 1, ""), "HEAD", "HTTP/1.1 200 So it is\r\n\r\n")
	wantPrint(t, answered(200, 1, "", "Content-Length: 7", inChunks), "HEAD", "HTTP/1.1 200 So it is\r\nContent-Length: 7\r\nTransfer-Encoding: chunked\r\n\r\n")
	// As great as may be.
	whole := xs(mostBody)
	wantPrint(t, asked(1, whole, "Content-Length: 1048576"), "", "PUT /x HTTP/1.1\r\nContent-Length: 1048576\r\n\r\n"+whole)
	wantPrint(t, answered(200, 1, whole, inChunks), "GET", "HTTP/1.1 200 So it is\r\n"+inChunks+"\r\n\r\n100000\r\n"+whole+"\r\n"+last)
	wantPrint(t, api.Message{Start: api.Start{Method: strings.Repeat("M", 32), Target: xs(8000)}, Fields: fields("a: " + xs(mostHead-7))}, "", strings.Repeat("M", 32)+" "+xs(8000)+" HTTP/1.0\r\na: "+xs(mostHead-7)+"\r\n\r\n")
	wantPrint(t, api.Message{Start: api.Start{Status: 999, Reason: xs(200)}, Fields: append(slices.Repeat(fields("a: b"), mostFields-1), fields("Content-Length: 1")...), Body: []byte{0}}, "", "HTTP/1.0 999 "+xs(200)+"\r\n"+strings.Repeat("a: b\r\n", mostFields-1)+"Content-Length: 1\r\n\r\n\x00")
}

// Of P8.1: each of what makes a message right, wrong.
func TestPrintOfWrong(t *testing.T) {
	for _, s := range []api.Start{
		{}, {Minor: 1}, {Method: "PUT"}, {Target: "/x"}, {Method: "P T", Target: "/x"}, {Method: "PUT", Target: "/ x"}, {Method: "PUT", Target: "/x", Minor: 2}, {Method: "PUT", Target: "/x", Minor: -1}, {Method: "PUT", Target: "/x", Reason: "x"}, {Method: xs(33), Target: "/"}, {Method: "M", Target: xs(8001)},
		{Status: 200, Method: "PUT"}, {Status: 200, Target: "/x"}, {Status: 200, Method: "PUT", Target: "/x"}, {Status: 200, Minor: 2}, {Status: 200, Minor: -1}, {Status: 200, Reason: " "}, {Status: 200, Reason: "\n"}, {Status: 200, Reason: xs(201)}, {Status: 99}, {Status: 1000}, {Status: -1},
	} {
		wantWrong(t, "GET", api.Message{Start: s}, api.Message{Start: s, Fields: fields("Content-Length: 1"), Body: []byte("x")}, api.Message{Start: s, Fields: fields("Content-Length: 0")})
		wantWrong(t, "HEAD", api.Message{Start: s})
	}
	for _, lines := range [][]string{{" a: b"}, {"a b: c"}, {""}, {": x"}, {"a: b\r\nc: d"}, {"a:  b"}, {"a: b "}, {"a: \x00"}, {"a: b", "a : b"}, slices.Repeat([]string{"a: b"}, mostFields+1), {"a: " + xs(mostHead-6)}} {
		wantWrong(t, "HEAD", asked(1, "", lines...), answered(200, 1, "", lines...), answered(204, 0, "", lines...))
		lines = append(lines[:len(lines):len(lines)], "Content-Length: 1")
		wantWrong(t, "GET", asked(1, "x", lines...), answered(200, 1, "x", lines...))
	}
	// The framing, and the body's length.
	wantWrong(t, "GET", answered(200, 1, ""), answered(200, 1, "x"), answered(404, 0, "", "a: b"),
		asked(1, "x"), asked(0, "x", "a: b"), asked(1, "x", "Content-Length: 0"), asked(1, "", "Content-Length: 1"), asked(1, "xyz", "Content-Length: 2"), asked(1, "x", "Content-Length: 2"), asked(1, "x", "Content-Length: 1, 2"), asked(1, "x", "Content-Length: x"), asked(1, "", "Content-Length: "),
		answered(200, 1, "x", "Content-Length: 0"), answered(200, 1, "", "Content-Length: 1"), answered(200, 1, "xyz", "Content-Length: 2"), answered(200, 1, "x", "Content-Length: 2"), answered(200, 1, "x", "Content-Length: +1"),
		asked(0, "x", inChunks), asked(0, "", inChunks), asked(1, "x", inChunks, "Content-Length: 1"), asked(1, "x", "Transfer-Encoding: gzip"), answered(200, 0, "x", inChunks), answered(200, 1, "x", inChunks, "Content-Length: 1"), answered(200, 1, "", "Transfer-Encoding: "),
		asked(1, xs(mostBody+1), "Content-Length: 1048577"), answered(200, 1, xs(mostBody+1), "Content-Length: 1048577"), asked(1, xs(mostBody+1), inChunks), answered(200, 1, xs(mostBody+1), inChunks), asked(1, xs(mostBody+1), "Content-Length: 1048576"))
	wantWrong(t, "HEAD", answered(200, 1, "x"), answered(200, 1, "x", "Content-Length: 1"), answered(200, 1, "x", inChunks), asked(1, "x"), asked(1, "", "Content-Length: 1"), asked(0, "", inChunks))
	// As small letters are no HEAD.
	wantWrong(t, "head", answered(200, 1, ""), answered(200, 1, "", "Content-Length: 1"))
}

func want(t *testing.T, s string, asks bool, method string, m api.Message, n int, e api.Errno) {
	t.Helper()
	if got, l, f := Parse([]byte(s), asks, method); !same(got, m) || l != n || f != e {
		t.Errorf("Parse(%s, %t, %q) is %s, %d, %d, not %s, %d, %d", brief(s), asks, method, brief(got), l, f, brief(m), n, e)
	}
}

// wantMessage: whatever stands behind; and less of it is ErrMore.
func wantMessage(t *testing.T, s string, asks bool, method string, m api.Message) {
	t.Helper()
	for _, behind := range []string{"", "x", "\r\n", "\n", "\x00", last, s, xs(2 * mostAsked)} {
		want(t, s+behind, asks, method, m, len(s), api.OK)
	}
	for i := range len(s) {
		if len(s) < 1000 || i < 3 || i > len(s)-3 {
			want(t, s[:i], asks, method, api.Message{}, 0, api.ErrMore)
		}
	}
}

func wantError(t *testing.T, e api.Errno, asks bool, method string, ss ...string) {
	t.Helper()
	for _, s := range ss {
		want(t, s, asks, method, api.Message{}, 0, e)
	}
}

// Of P8.3: as others write it than Print.
func TestParse(t *testing.T) {
	wantMessage(t, "GET / HTTP/1.1\r\nHost: a\r\n\r\n", true, "", api.Message{Start: api.Start{Method: "GET", Target: "/", Minor: 1}, Fields: fields("Host: a")})
	wantMessage(t, "PUT /x HTTP/1.0\r\nA:b\r\ncontent-length:\t 2 \r\nC:\t\r\n\r\nab", true, "HEAD", asked(0, "ab", "A:b", "content-length: 2", "C:"))
	wantMessage(t, "PUT /x HTTP/1.1\r\nTransfer-Encoding:chunked\r\n\r\n01;x=y\r\na\r\n2 ;\r\nbc\r\n00\r\nContent-Length: 5\r\nT:\r\n\r\n", true, "", asked(1, "abc", inChunks))
	wantMessage(t, "HTTP/1.1 200 So it is\r\nA: b\r\nTransfer-Encoding: Chunked\r\n\r\n5\r\n"+last+"\r\n3\r\n\x00\n\xff\r\n0;\r\n\r\n", false, "GET", answered(200, 1, last+"\x00\n\xff", "A: b", "Transfer-Encoding: Chunked"))
	wantMessage(t, "HTTP/1.1 304 So it is\r\nContent-Length: 9\r\n\r\n", false, "GET", answered(304, 1, "", "Content-Length: 9"))
	wantMessage(t, "HTTP/1.1 200 So it is\r\nContent-Length: x\r\n\r\n", false, "HEAD", answered(200, 1, "", "Content-Length: x"))
	wantMessage(t, "HTTP/1.0 100 \r\n\r\n", false, "", api.Message{Start: api.Start{Status: 100}})
}

// Of P8.3: the errors of each part, which is the first one, and of how little.
func TestParseOfWrong(t *testing.T) {
	ask, tell, chunked := "PUT /x HTTP/1.1\r\n", "HTTP/1.1 200 OK\r\n", inChunks+"\r\n\r\n"
	for _, asks := range []bool{true, false} {
		line, most := tell, mostAnswered
		if asks {
			line, most = ask, mostAsked
		}
		wantError(t, api.ErrMore, asks, "", "", "x", "\r", " ", line[:len(line)-1], xs(most-1), line, line+"\n", line+"no field", line+"Content-Length: x", line+"Content-Length: x\r\n", line+"Content-Length: x\r\n\r", line+xs(mostHead), line+"Content-Length: 1\r\n\r\n", line+"Content-Length: 9\r\n\r\n"+xs(8), line+chunked, line+chunked+"z", line+chunked+"1\r\nab", line+chunked+"0\r\n", line+chunked+"FFFFFFFF\r")
		// Of the first line.
		wantError(t, api.ErrForm, asks, "", "\n", "x\n", "\r\n", "\r\n"+line+"\r\n", " "+line+"\r\n", "PUT /x HTTP/1.2\r\n", "PUT  /x HTTP/1.1\r\n\r\n", "HTTP/2.0 200 OK\r\n\r\n", "HTTP/1.1 99 OK\r\n", "HTTP/1.1 200\r\n", "PUT /x HTTP/1.1\n\n", xs(most-1)+"\n", "x\n"+xs(2*mostHead))
		wantError(t, api.ErrLong, asks, "", xs(most), xs(most)+"\n", xs(2*mostHead), xs(most)+"\r\n\r\n")
		// Of the header, whatever stands behind.
		wantError(t, api.ErrForm, asks, "", line+"x\r\n", line+" a: b\r\n", line+"a: b\r\n c\r\n", line+"a: b\nc: d\r\n\r\n", line+"a : b\r\n\r\n", line+inChunks+"\r\nx\r\n", line+"x\r\n"+xs(2*mostHead), line+line+"\r\n")
		wantError(t, api.ErrLong, asks, "", line+xs(mostHead+1), line+"a: "+xs(mostHead)+"\r\n\r\n", line+"Content-Length: x\r\n"+xs(mostHead), line+"a: "+xs(mostHead-6)+"\r\n\r\n")
		wantError(t, api.ErrMany, asks, "", line+strings.Repeat("a: b\r\n", mostFields+1), line+strings.Repeat("Content-Length: x\r\n", mostFields+1)+"\r\n")
		// Of the framing.
		wantError(t, api.ErrForm, asks, "", line+"Content-Length: x\r\n\r\n", line+"Content-Length: 1, 2\r\n\r\nab", line+"Content-Length: 1\r\n"+chunked+last, line+chunked[:len(chunked)-4]+", gzip\r\n\r\n"+xs(300), line+"Transfer-Encoding: gzip\r\n\r\n", strings.Replace(line, "1.1", "1.0", 1)+chunked+last, line+strings.Repeat("Content-Length:\r\n", mostFields)+"\r\n")
		wantError(t, api.ErrLong, asks, "", line+"Content-Length: 1048577\r\n\r\n", line+"Content-Length: 1048577\r\n\r\n"+xs(10))
		// Of chunks.
		wantError(t, api.ErrForm, asks, "", line+chunked+"z\r\n", line+chunked+"\r\n", line+chunked+"1\r\nabc", line+chunked+"1\r\na\r\nz\r\n", line+chunked+"0\r\nx\r\n", line+chunked+"000000000\r\n\r\n")
		wantError(t, api.ErrLong, asks, "", line+chunked+xs(256), line+chunked+"100001\r\n", line+chunked+"1\r\na\r\n100000\r\n", line+chunked+"0\r\n"+xs(256))
		wantError(t, api.ErrMany, asks, "", line+chunked+"0\r\n"+strings.Repeat("a: b\r\n", mostFields+1))
	}
	wantError(t, api.ErrLong, true, "", "M /"+xs(8000)+" HTTP/1.1\r\n", xs(33)+" / HTTP/1.1\r\nx\r\n")
	wantError(t, api.ErrLong, false, "", "HTTP/1.1 200 "+xs(201)+"\r\n")
	// One isn't the other.
	wantError(t, api.ErrForm, true, "", tell+"\r\n", tell+"Content-Length: 0\r\n\r\n")
	wantError(t, api.ErrForm, false, "HEAD", ask+"\r\n", ask+"Content-Length: 0\r\n\r\n")
	// A response tells of its body.
	wantError(t, api.ErrForm, false, "GET", tell+"\r\n", tell+"a: b\r\n\r\nbody")
	wantError(t, api.ErrForm, false, "head", tell+"\r\n")
	// With no body, its framing has no error, but its header may have.
	wantError(t, api.ErrForm, false, "HEAD", tell+"x\r\n", tell+"a: b\r\nx\r\n\r\n")
	wantError(t, api.ErrMore, false, "HEAD", tell+"Content-Length: x\r\n")
}

// Of P8.3: all rows of what messages are made of, against what the chapter's words come to.
func TestParseOfAll(t *testing.T) {
	good := 0
	var all []string
	for _, line := range []string{"PUT /x HTTP/1.1\r\n", "HTTP/1.1 200 OK\r\n", "HTTP/1.1 204 OK\r\n", "PUT /x HTTP/1.0\r\n"} {
		for _, s := range texts(4, "Content-Length: 3\r\n", "content-length:4,\r\n", inChunks+"\r\n", "a: b\r\n", "\r\n", "2\r\nab\r\n", "0\r\n", "x") {
			all = append(all, line+s, line+s+"\r\n"+last, line+"a: b\r\n"+s+"\r\nabcd", line+inChunks+"\r\n\r\n"+s)
		}
	}
	all = append(all, texts(4, "PUT /x HTTP/1.1", "HTTP/1.0 204 ", "\r", "\n", "\r\n", "a:", " ")...)
	for _, s := range all {
		for _, asks := range []bool{true, false} {
			for _, method := range []string{"GET", "HEAD"} {
				m, n, e := meant(s, asks, method)
				want(t, s, asks, method, m, n, e)
				if e == api.OK {
					good++
				}
			}
		}
		if t.Failed() {
			return
		}
	}
	if good < 5000 {
		t.Errorf("%d messages: too few to tell", good)
	}
}

// Of P8.4: messages of all kinds, each printed, read as itself, and read piece by piece.
func TestParseOfPrint(t *testing.T) {
	random := rand.New(rand.NewSource(1))
	pick := func(ss ...string) string { return ss[random.Intn(len(ss))] }
	right := 0
	for range 3000 {
		body := make([]byte, random.Intn(30)*random.Intn(30))
		random.Read(body)
		m := api.Message{Start: api.Start{Method: pick("GET", "HEAD", "x!"), Target: pick("/", "*", "http://a/b?c"), Minor: random.Intn(2)}}
		if random.Intn(2) == 0 {
			m.Start = api.Start{Status: 100 + random.Intn(400), Reason: pick("", "OK", "\xe9\ta b"), Minor: random.Intn(2)}
		}
		for range random.Intn(4) {
			m.Fields = append(m.Fields, fields(pick("a: b", "A:", "x: \"\t\xff", "Connection: close"))...)
		}
		switch random.Intn(4) {
		case 0:
			m.Fields, m.Body = append(m.Fields, fields(inChunks)...), body
		case 1:
			m.Fields, m.Body = append(m.Fields, fields("content-length: "+strconv.Itoa(len(body)))...), body
		case 2:
			m.Fields = append(m.Fields, fields(pick("Content-Length: 0", inChunks))...)
		}
		method := pick("GET", "HEAD")
		kind, n, e := meantFraming(m, method)
		if e != api.OK || kind != api.Chunked && n != len(m.Body) {
			wantWrong(t, method, m)
			continue
		}
		right++
		b, _ := Print(m, method)
		behind := pick("", "x", "\r\n", string(b))
		want(t, string(b)+behind, m.Status == 0, method, m, len(b), api.OK)
		wantPieces(t, string(b)+behind, m.Status == 0, method, random.Intn(len(b)/2), len(b)/2, len(b)/2+random.Intn(len(b)/2))
	}
	if right < 1000 {
		t.Errorf("%d right messages: too few to tell", right)
	}
}
