package start

import (
	"fmt"
	"math"
	"regexp"
	"slices"
	"strconv"
	"strings"
	"testing"
	"unsafe"

	"icehouse/api"
)

const (
	// Those that RFC 9110, 5.6.2 names, one by one.
	tokens = "abcdefghijklmnopqrstuvwxyzABCDEFGHIJKLMNOPQRSTUVWXYZ0123456789!#$%&'*+-.^_\x60|~"

	mostMethod = 32
	mostTarget = 8000
	mostReason = 200
	// As far as a line's end is looked for.
	farRequest  = 8201
	farResponse = 301
)

func one(c int) string { return string([]byte{byte(c)}) }

func xs(n int) string { return strings.Repeat("x", n) }

func brief(x any) string {
	if b, ok := x.([]byte); ok {
		x = string(b)
	}
	s := fmt.Sprintf("%#v", x)
	if len(s) > 120 {
		return s[:120] + " .."
	}
	return s
}

// texts is all texts of at most so many of the pieces.
func texts(most int, pieces ...string) []string {
	all := []string{""}
	for from := 0; most > 0; most-- {
		to := len(all)
		for _, s := range all[from:to] {
			for _, piece := range pieces {
				all = append(all, s+piece)
			}
		}
		from = to
	}
	return all
}

func request(method, target string, minor int) api.Start {
	return api.Start{Method: method, Target: target, Minor: minor}
}

func response(status int, reason string, minor int) api.Start {
	return api.Start{Status: status, Reason: reason, Minor: minor}
}

// wantPrint: also of Right, which is true where there is a text.
func wantPrint(t *testing.T, s api.Start, want string) {
	t.Helper()
	if b, e := Print(s); string(b) != want || e != api.OK {
		t.Errorf("Print of %s is %s, %d, not %s", brief(s), brief(b), e, brief(want))
	}
	if !Right(s) {
		t.Errorf("Right of %s is false", brief(s))
	}
}

func wantWrong(t *testing.T, s api.Start) {
	t.Helper()
	if b, e := Print(s); b != nil || e != api.ErrForm {
		t.Errorf("Print of %s is %s, %d, not ErrForm", brief(s), brief(b), e)
	}
	if Right(s) {
		t.Errorf("Right of %s is true", brief(s))
	}
}

// A reading is Request or Response.
type reading struct {
	name string
	read func([]byte) (api.Start, int, api.Errno)
}

var (
	ofRequest  = reading{"Request", Request}
	ofResponse = reading{"Response", Response}
)

func (r reading) want(t *testing.T, b string, s api.Start, n int, e api.Errno) {
	t.Helper()
	if gotS, gotN, got := r.read([]byte(b)); gotS != s || gotN != n || got != e {
		t.Errorf("%s of %s is %s, %d, %d, not %s, %d, %d", r.name, brief(b), brief(gotS), gotN, got, brief(s), n, e)
	}
}

func (r reading) wantError(t *testing.T, e api.Errno, bs ...string) {
	t.Helper()
	for _, b := range bs {
		r.want(t, b, api.Start{}, 0, e)
	}
}

// wantLine: each line, with its end, whatever stands behind.
func (r reading) wantLine(t *testing.T, line string, s api.Start) {
	t.Helper()
	for _, behind := range []string{"", "A", "\r\n", "\n", " ", "\x00", line, xs(2 * farRequest)} {
		r.want(t, line+"\r\n"+behind, s, len(line)+2, api.OK)
	}
}

// Of P6.1.
func TestPrint(t *testing.T) {
	wantPrint(t, request("GET", "/x", 1), "GET /x HTTP/1.1\r\n")
	wantPrint(t, request("POST", "http://a/b?c", 0), "POST http://a/b?c HTTP/1.0\r\n")
	wantPrint(t, request("get", "*", 1), "get * HTTP/1.1\r\n")
	wantPrint(t, request("!", "~", 0), "! ~ HTTP/1.0\r\n")
	wantPrint(t, request("HTTP", "HTTP/1.1", 1), "HTTP HTTP/1.1 HTTP/1.1\r\n")
	wantPrint(t, response(200, "OK", 1), "HTTP/1.1 200 OK\r\n")
	wantPrint(t, response(404, "Not Found", 0), "HTTP/1.0 404 Not Found\r\n")
	wantPrint(t, response(204, "", 1), "HTTP/1.1 204 \r\n")
	wantPrint(t, response(100, "a \t b", 1), "HTTP/1.1 100 a \t b\r\n")
	wantPrint(t, response(999, "\xff\u00e9\"\\", 0), "HTTP/1.0 999 \xff\u00e9\"\\\r\n")
	wantPrint(t, response(200, "200", 0), "HTTP/1.0 200 200\r\n")
	for _, s := range []api.Start{
		{}, {Minor: 1}, {Reason: "OK"}, {Method: "GET"}, {Target: "/"}, {Method: "GET", Minor: 1}, {Target: "/", Minor: 1},
		request("", "/", 1), request("GET", "", 1), request("G T", "/", 1), request("GET ", "/", 1), request(" GET", "/", 1), request("G(T", "/", 1), request("GET", "/ ", 1), request("GET", "/a b", 1), request("GET", "\t", 1), request("GET", "/\r\n", 1), request("G\r\n", "/", 1), request("GET", "/\u00e9", 1), request("G\u00e9T", "/", 1),
		response(200, " ", 1), response(200, " x", 1), response(200, "x ", 1), response(200, "\tx", 1), response(200, "x\t", 1), response(200, "x\r\ny", 1), response(200, "\n", 1), response(200, "x\r", 1),
		// Of both, or of neither.
		{Method: "GET", Target: "/", Status: 200, Minor: 1}, {Method: "GET", Status: 200, Minor: 1}, {Target: "/", Status: 200, Minor: 1}, {Method: "GET", Target: "/", Reason: "OK", Minor: 1}, {Method: "GET", Target: "/", Status: 200, Reason: "OK"}, {Method: "GET", Target: "/", Status: 1},
	} {
		wantWrong(t, s)
	}
}

// Of P6.1: all statuses, all minor versions about their bounds.
func TestPrintOfNumbers(t *testing.T) {
	for status := -1100; status <= 1100; status++ {
		s := response(status, "x", 1)
		if 100 <= status && status <= 999 {
			wantPrint(t, s, "HTTP/1.1 "+strconv.Itoa(status)+" x\r\n")
		} else {
			wantWrong(t, s)
			s.Reason = ""
			wantWrong(t, s)
		}
	}
	for _, status := range []int{math.MinInt, math.MaxInt, 1<<8 + 1<<32, 200 + 1<<16, 200 + 1<<32, -200} {
		wantWrong(t, response(status, "x", 1))
		wantWrong(t, api.Start{Method: "GET", Target: "/", Status: status, Minor: 1})
	}
	for _, minor := range []int{math.MinInt, -10, -2, -1, 2, 3, 9, 10, 11, 256, 257, 1 << 32, 1<<32 + 1, math.MaxInt} {
		wantWrong(t, request("GET", "/", minor))
		wantWrong(t, response(200, "OK", minor))
	}
}

// Of P6.1: which octets its texts may have, at their ends and within.
func TestPrintOfOctets(t *testing.T) {
	want := func(fits bool, s api.Start, text string) {
		t.Helper()
		if fits {
			wantPrint(t, s, text)
		} else {
			wantWrong(t, s)
		}
	}
	for c := range 256 {
		o := one(c)
		blank := c == ' ' || c == '\t'
		for _, s := range []string{o, o + "x", "x" + o, "x" + o + "x"} {
			want(strings.Contains(tokens, o), request(s, "/", 1), s+" / HTTP/1.1\r\n")
			want(c > ' ' && c < 127, request("M", s, 0), "M "+s+" HTTP/1.0\r\n")
			fits := c > ' ' && c != 127 || blank && s == "x"+o+"x"
			want(fits, response(200, s, 1), "HTTP/1.1 200 "+s+"\r\n")
		}
	}
}

// Of P6.1: as long as may be, and an octet more.
func TestPrintOfLong(t *testing.T) {
	wantPrint(t, request(xs(mostMethod), "/", 1), xs(mostMethod)+" / HTTP/1.1\r\n")
	wantPrint(t, request("GET", xs(mostTarget), 1), "GET "+xs(mostTarget)+" HTTP/1.1\r\n")
	wantPrint(t, request(xs(mostMethod), xs(mostTarget), 0), xs(mostMethod)+" "+xs(mostTarget)+" HTTP/1.0\r\n")
	wantPrint(t, response(200, xs(mostReason), 1), "HTTP/1.1 200 "+xs(mostReason)+"\r\n")
	for _, s := range []api.Start{
		request(xs(mostMethod+1), "/", 1), request("GET", xs(mostTarget+1), 1), request(xs(mostMethod+1), xs(mostTarget+1), 1), response(200, xs(mostReason+1), 1),
		request(xs(1<<20), "/", 1), request("GET", xs(1<<20), 1), response(200, xs(1<<20), 1), request("GET", xs(mostTarget+1)+" ", 1),
	} {
		wantWrong(t, s)
	}
}

// Of P6.2.
func TestRequest(t *testing.T) {
	ofRequest.want(t, "GET /x HTTP/1.1\r\nA", request("GET", "/x", 1), 17, api.OK)
	ofRequest.wantLine(t, "GET /x HTTP/1.1", request("GET", "/x", 1))
	ofRequest.wantLine(t, "POST http://a/b?c HTTP/1.0", request("POST", "http://a/b?c", 0))
	ofRequest.wantLine(t, "m * HTTP/1.1", request("m", "*", 1))
	ofRequest.wantLine(t, "CONNECT a:80 HTTP/1.1", request("CONNECT", "a:80", 1))
	ofRequest.wantLine(t, "HTTP HTTP/1.1 HTTP/1.0", request("HTTP", "HTTP/1.1", 0))
	ofRequest.wantLine(t, "GET /%zz\"<>\\^`{|}# HTTP/1.1", request("GET", "/%zz\"<>\\^`{|}#", 1))
	// No line's end yet, whatever the line begins with.
	ofRequest.wantError(t, api.ErrMore, "", "G", "GET", "GET ", "GET /", "GET / HTTP/1.1", "GET / HTTP/1.1\r", "\r", " ", "\x00", "GET / HTTP/9.9", "a b c d e f", "\r\r\r", "((((", xs(100))
	ofRequest.wantError(t, api.ErrForm,
		// Ends.
		"\n", "\r\n", "\r\r\n", "\n\r\n", "GET / HTTP/1.1\n", "GET / HTTP/1.1\n\r\n", "GET / HTTP/1.1\r\r\n", "GET / HTTP/1.1\rx\n", "GET / HTTP/1.1 \r\n", "GET / HTTP/1.1\t\r\n", "GET / HTTP/1.1\r \n", "GET /\r\nHTTP/1.1\r\n", "GET\n/ HTTP/1.1\r\n", "\r\nGET / HTTP/1.1\r\n", "\nGET / HTTP/1.1\r\n", "GET /\r HTTP/1.1\r\n", "GET\r / HTTP/1.1\r\n",
		// Pieces.
		" \r\n", "  \r\n", "   \r\n", "GET\r\n", "GET \r\n", "GET /\r\n", "GET / \r\n", "GET HTTP/1.1\r\n", "GET  HTTP/1.1\r\n", "/ HTTP/1.1\r\n", " / HTTP/1.1\r\n", " GET / HTTP/1.1\r\n", "GET  / HTTP/1.1\r\n", "GET /  HTTP/1.1\r\n", "GET / / HTTP/1.1\r\n", "GET / HTTP/1.1 x\r\n", "GET\t/ HTTP/1.1\r\n", "GET /\tHTTP/1.1\r\n", "GET\t/\tHTTP/1.1\r\n", "GET/HTTP/1.1\r\n", "\tGET / HTTP/1.1\r\n",
		// What stands in them.
		"G(T / HTTP/1.1\r\n", "G/T / HTTP/1.1\r\n", "GET: / HTTP/1.1\r\n", "\"GET\" / HTTP/1.1\r\n", "\xff / HTTP/1.1\r\n", "GET \x7f HTTP/1.1\r\n", "GET /\x00 HTTP/1.1\r\n", "GET /\xc3\xa9 HTTP/1.1\r\n", "GET /\t HTTP/1.1\r\n",
		// Versions.
		"GET / HTTP/1.2\r\n", "GET / HTTP/1.\r\n", "GET / HTTP/1.10\r\n", "GET / HTTP/1.01\r\n", "GET / HTTP/1\r\n", "GET / HTTP/11\r\n", "GET / HTTP/0.9\r\n", "GET / HTTP/2.0\r\n", "GET / HTTP/2\r\n", "GET / HTTP/1,1\r\n", "GET / HTTP/01.1\r\n", "GET / HTTP/+1.1\r\n", "GET / HTTP/1.-1\r\n", "GET / HTTP/1.1a\r\n", "GET / xHTTP/1.1\r\n", "GET / http/1.1\r\n", "GET / Http/1.1\r\n", "GET / HTTP1.1\r\n", "GET / HTTPS/1.1\r\n", "GET / HTTP/1.1,\r\n", "GET / HTTP/\x01.1\r\n",
		// A response's, a field's.
		"HTTP/1.1 200 OK\r\n", "HTTP/1.1 200 \r\n", "HTTP/1.1 200 HTTP/1.1\r\n", "Host: a\r\n",
		// Only the first line counts.
		"x\nGET / HTTP/1.1\r\n", "x\r\nGET / HTTP/1.1\r\n",
	)
}

// Of P6.2.
func TestResponse(t *testing.T) {
	ofResponse.want(t, "HTTP/1.0 204 \r\n", response(204, "", 0), 15, api.OK)
	ofResponse.wantLine(t, "HTTP/1.1 404 Not Found", response(404, "Not Found", 1))
	ofResponse.wantLine(t, "HTTP/1.0 100 ", response(100, "", 0))
	ofResponse.wantLine(t, "HTTP/1.1 999 x", response(999, "x", 1))
	ofResponse.wantLine(t, "HTTP/1.1 200 a  b\t \tc", response(200, "a  b\t \tc", 1))
	ofResponse.wantLine(t, "HTTP/1.1 200 200", response(200, "200", 1))
	ofResponse.wantLine(t, "HTTP/1.1 200 HTTP/1.1 200 OK", response(200, "HTTP/1.1 200 OK", 1))
	ofResponse.wantLine(t, "HTTP/1.1 200 \xff\u00e9\"\\\x80", response(200, "\xff\u00e9\"\\\x80", 1))
	// No line's end yet, whatever the line begins with.
	ofResponse.wantError(t, api.ErrMore, "", "H", "HTTP/1.1", "HTTP/1.1 ", "HTTP/1.1 2", "HTTP/1.1 200", "HTTP/1.1 200 ", "HTTP/1.1 200 OK", "HTTP/1.1 200 OK\r", "\r", " ", "\x00", "HTTP/9.9", "HTTP/1.1 2000", "((((", xs(100))
	ofResponse.wantError(t, api.ErrForm,
		// Ends.
		"\n", "\r\n", "\r\r\n", "\n\r\n", "HTTP/1.1 200 OK\n", "HTTP/1.1 200 \n", "HTTP/1.1 200 OK\n\r\n", "HTTP/1.1 200 OK\r\r\n", "HTTP/1.1 200 \r\r\n", "HTTP/1.1 200 O\rK\r\n", "HTTP/1.1 200 OK\rx\n", "\r\nHTTP/1.1 200 OK\r\n", "HTTP/1.1\r\n200 OK\r\n", "HTTP/1.1 200\n OK\r\n",
		// Pieces.
		" \r\n", "  \r\n", "HTTP/1.1\r\n", "HTTP/1.1 \r\n", "HTTP/1.1 200\r\n", "HTTP/1.1  \r\n", "HTTP/1.1  200 OK\r\n", " HTTP/1.1 200 OK\r\n", "HTTP/1.1\t200 OK\r\n", "HTTP/1.1 200\tOK\r\n", "HTTP/1.1200 OK\r\n", "HTTP/1.1 200OK\r\n", "200 OK\r\n", " 200 OK\r\n", "HTTP/1.1 OK\r\n", "HTTP/1.1 OK 200\r\n",
		// Statuses.
		"HTTP/1.1 099 x\r\n", "HTTP/1.1 000 x\r\n", "HTTP/1.1 000 \r\n", "HTTP/1.1 001 x\r\n", "HTTP/1.1 20 x\r\n", "HTTP/1.1 2 x\r\n", "HTTP/1.1 2000 x\r\n", "HTTP/1.1 0200 x\r\n", "HTTP/1.1 1000 x\r\n", "HTTP/1.1 2x0 x\r\n", "HTTP/1.1 xxx x\r\n", "HTTP/1.1 +20 x\r\n", "HTTP/1.1 -20 x\r\n", "HTTP/1.1 2.0 x\r\n", "HTTP/1.1 1e2 x\r\n", "HTTP/1.1 0xc x\r\n", "HTTP/1.1 abc x\r\n", "HTTP/1.1 \u0661\u0662 x\r\n", "HTTP/1.1 18446744073709551816 x\r\n",
		// Reasons.
		"HTTP/1.1 200  \r\n", "HTTP/1.1 200  x\r\n", "HTTP/1.1 200 x \r\n", "HTTP/1.1 200 \tx\r\n", "HTTP/1.1 200 x\t\r\n", "HTTP/1.1 200 \t\r\n", "HTTP/1.1 200 x\x00\r\n", "HTTP/1.1 200 x\x7fy\r\n", "HTTP/1.1 200 \x1b\r\n", "HTTP/1.1 200 x\vy\r\n",
		// Versions.
		"HTTP/1.2 200 x\r\n", "HTTP/1. 200 x\r\n", "HTTP/1.10 200 x\r\n", "HTTP/1.01 200 x\r\n", "HTTP/1 200 x\r\n", "HTTP/0.9 200 x\r\n", "HTTP/2.0 200 x\r\n", "HTTP/2 200 x\r\n", "http/1.1 200 x\r\n", "HTTPS/1.1 200 x\r\n", "ICY 200 x\r\n", "xHTTP/1.1 200 x\r\n",
		// A request's, a field's.
		"GET / HTTP/1.1\r\n", "GET 200 HTTP/1.1\r\n", "Host: a\r\n",
		// Only the first line counts.
		"x\nHTTP/1.1 200 OK\r\n", "x\r\nHTTP/1.1 200 OK\r\n",
	)
	for n := range 10000 {
		code := fmt.Sprintf("%03d", n)
		line := "HTTP/1.1 " + code + " x\r\n"
		if 100 <= n && n <= 999 {
			ofResponse.want(t, line, response(n, "x", 1), 16, api.OK)
		} else {
			ofResponse.wantError(t, api.ErrForm, line)
		}
	}
}

// Of P6.2: which octets a line may have, at its parts' ends, within, and in place of each of its own.
func TestReadOfOctets(t *testing.T) {
	for c := range 256 {
		o := one(c)
		if c == '\n' {
			continue
		}
		for _, s := range []string{o, o + "x", "x" + o, "x" + o + "x"} {
			want := func(r reading, fits bool, line string, first api.Start) {
				t.Helper()
				if fits {
					r.want(t, line+"\r\n", first, len(line)+2, api.OK)
				} else {
					r.wantError(t, api.ErrForm, line+"\r\n")
				}
			}
			want(ofRequest, strings.Contains(tokens, o), s+" / HTTP/1.1", request(s, "/", 1))
			want(ofRequest, c > ' ' && c < 127, "M "+s+" HTTP/1.0", request("M", s, 0))
			blank := c == ' ' || c == '\t'
			want(ofResponse, c > ' ' && c != 127 || blank && s == "x"+o+"x", "HTTP/1.1 200 "+s, response(200, s, 1))
		}
		asks, answers := "GET / HTTP/1.1\r\n", "HTTP/1.1 200 OK\r\n"
		for i := range len(asks) {
			s := asks[:i] + o + asks[i+1:]
			first, n, e := meantRequest(s)
			ofRequest.want(t, s, first, n, e)
		}
		for i := range len(answers) {
			s := answers[:i] + o + answers[i+1:]
			first, n, e := meantResponse(s)
			ofResponse.want(t, s, first, n, e)
		}
	}
}

// Of P6.2: how long a line and its texts may be; which error comes first.
func TestRequestOfLong(t *testing.T) {
	r := ofRequest
	// A line as long as one may be, and what is too long within the reach of its end.
	r.wantLine(t, xs(mostMethod)+" / HTTP/1.1", request(xs(mostMethod), "/", 1))
	r.wantLine(t, "GET "+xs(mostTarget)+" HTTP/1.1", request("GET", xs(mostTarget), 1))
	r.wantLine(t, xs(mostMethod)+" "+xs(mostTarget)+" HTTP/1.0", request(xs(mostMethod), xs(mostTarget), 0))
	r.wantError(t, api.ErrLong, xs(mostMethod+1)+" / HTTP/1.1\r\n", "GET "+xs(mostTarget+1)+" HTTP/1.1\r\n", xs(mostMethod+1)+" "+xs(mostTarget+1)+" HTTP/1.1\r\n", xs(8000)+" / HTTP/1.0\r\nx")
	// The last octet where its end may stand, and one further.
	r.wantError(t, api.ErrLong, "GET "+xs(farRequest-15)+" HTTP/1.1\r\n", xs(farRequest-13)+" / HTTP/1.1\r\n", xs(farRequest-13)+" / HTTP/1.1\r\n"+xs(farRequest))
	r.wantError(t, api.ErrForm, xs(farRequest-1)+"\n", xs(farRequest-2)+"\r\n", xs(farRequest-1)+"\nGET / HTTP/1.1\r\n", strings.Repeat(" ", farRequest-1)+"\n")
	r.wantError(t, api.ErrLong, xs(farRequest)+"\n", xs(farRequest-1)+"\r\n", xs(farRequest), xs(farRequest+1), xs(10*farRequest), xs(10*farRequest)+"\r\n", strings.Repeat("\r", farRequest), strings.Repeat("\x00", farRequest), "GET "+xs(farRequest-14)+" HTTP/1.1\r\n", "GET "+xs(farRequest)+" HTTP/1.1\r\n")
	r.wantError(t, api.ErrMore, xs(farRequest-1), xs(farRequest-2)+"\r", strings.Repeat("\x00", farRequest-1), "GET "+xs(mostTarget+1), "GET "+xs(mostTarget+1)+" HTTP/1.1\r", xs(farRequest-2))
	// Wrong, and too long.
	r.wantError(t, api.ErrForm, xs(mostMethod+1)+" / HTTP/1.2\r\n", "GET "+xs(mostTarget+1)+" HTTP/1.1\n", "G(T "+xs(mostTarget+1)+" HTTP/1.1\r\n", xs(mostMethod+1)+" \x7f HTTP/1.1\r\n", xs(mostMethod)+"(x / HTTP/1.1\r\n", "GET "+xs(mostTarget)+"\t HTTP/1.1\r\n", xs(mostMethod+1)+"  HTTP/1.1\r\n", xs(mostMethod+1)+" /\r\n")
}

// Of P6.2: the same of responses.
func TestResponseOfLong(t *testing.T) {
	r := ofResponse
	r.wantLine(t, "HTTP/1.1 200 "+xs(mostReason), response(200, xs(mostReason), 1))
	r.wantError(t, api.ErrLong, "HTTP/1.1 200 "+xs(mostReason+1)+"\r\n", "HTTP/1.1 200 "+xs(mostReason+1)+"\r\n"+xs(farResponse), "HTTP/1.1 200 "+xs(farResponse-15)+"\r\n")
	r.wantError(t, api.ErrForm, xs(farResponse-1)+"\n", xs(farResponse-2)+"\r\n", xs(farResponse-1)+"\nHTTP/1.1 200 OK\r\n")
	r.wantError(t, api.ErrLong, xs(farResponse)+"\n", xs(farResponse-1)+"\r\n", xs(farResponse), xs(farResponse+1), xs(10*farRequest), "HTTP/1.1 200 "+xs(farResponse-14)+"\r\n", "HTTP/1.1 200 "+xs(farResponse)+"\r\n", strings.Repeat("\r", farResponse))
	r.wantError(t, api.ErrMore, xs(farResponse-1), xs(farResponse-2)+"\r", "HTTP/1.1 200 "+xs(mostReason+1), "HTTP/1.1 200 "+xs(mostReason+1)+"\r", strings.Repeat("\x00", farResponse-1))
	r.wantError(t, api.ErrForm, "HTTP/1.1 200 "+xs(mostReason+1)+"\n", "HTTP/1.1 200 "+xs(mostReason+1)+" \r\n", "HTTP/1.1 200  "+xs(mostReason+1)+"\r\n", "HTTP/1.2 200 "+xs(mostReason+1)+"\r\n", "HTTP/1.1 099 "+xs(mostReason+1)+"\r\n", "HTTP/1.1 200 "+xs(mostReason+1)+"\x00x\r\n")
}

// The forms of what stands up to the first LF.
var (
	requestForm  = regexp.MustCompile(`(?s)\A([-!#$%&'*+.^_` + "`" + `|~0-9A-Za-z]+) ([!-~]+) HTTP/1\.([01])\r\z`)
	responseForm = regexp.MustCompile(`(?s)\AHTTP/1\.([01]) ([1-9][0-9][0-9]) ([^\x00-\x08\x0a-\x1f\x7f]*)\r\z`)
)

func meantRequest(b string) (api.Start, int, api.Errno) {
	line, _, ok := strings.Cut(b, "\n")
	if !ok {
		return api.Start{}, 0, api.ErrMore
	}
	parts := requestForm.FindStringSubmatch(line)
	if parts == nil {
		return api.Start{}, 0, api.ErrForm
	}
	return request(parts[1], parts[2], int(parts[3][0]-'0')), len(line) + 1, api.OK
}

func meantResponse(b string) (api.Start, int, api.Errno) {
	line, _, ok := strings.Cut(b, "\n")
	if !ok {
		return api.Start{}, 0, api.ErrMore
	}
	parts := responseForm.FindStringSubmatch(line)
	if parts == nil || strings.Trim(parts[3], " \t") != parts[3] {
		return api.Start{}, 0, api.ErrForm
	}
	status, _ := strconv.Atoi(parts[2])
	return response(status, parts[3], int(parts[1][0]-'0')), len(line) + 1, api.OK
}

// Of P6.2 and P6.3: all short texts, against patterns of lines; none is both; what is read is right, and its text is read as it.
func TestReadAll(t *testing.T) {
	good := map[string]int{}
	all := texts(5, "GET", " ", "/", "HTTP/1.1", "HTTP/1.0", "200", "\t", "\r", "\n")
	for _, s := range texts(6, "a", " ", "/", "HTTP/1.0", "200", "\t", "\r") {
		all = append(all, s+"\r\n", s+"\n", s+" HTTP/1.1\r\n", "HTTP/1.1 "+s+"\r\n", "HTTP/1.0 404 "+s+"\r\n")
	}
	for _, s := range all {
		asked, n, e := meantRequest(s)
		ofRequest.want(t, s, asked, n, e)
		answered, m, f := meantResponse(s)
		ofResponse.want(t, s, answered, m, f)
		if e == api.OK && f == api.OK {
			t.Errorf("%q is both", s)
		}
		if e == api.OK {
			wantPrint(t, asked, s[:n])
			good["requests"]++
		}
		if f == api.OK {
			wantPrint(t, answered, s[:m])
			good["responses"]++
		}
		if t.Failed() {
			return
		}
	}
	if good["requests"] < 100 || good["responses"] < 1000 {
		t.Errorf("%v: too few to tell", good)
	}
}

// Of P6.3: a line's text is read as that line, whatever stands behind; less of it is none, and no line is both.
func TestReadOfPrint(t *testing.T) {
	var asked, answered []api.Start
	for _, minor := range []int{0, 1} {
		for _, method := range []string{"GET", "m", tokens[:32], tokens[32:64], tokens[64:], xs(mostMethod), "HTTP", "200"} {
			for _, target := range []string{"/", "*", "HTTP/1.1", "http://a:80/b?c=%41", "!\"#$%&'()*+,-./0123456789:;<=>?@[\\]^_`{|}~", "200", xs(mostTarget)} {
				asked = append(asked, request(method, target, minor))
			}
		}
		for _, status := range []int{100, 101, 200, 304, 599, 990, 999} {
			for _, reason := range []string{"", "OK", "Not Found", "a \t b", "\xff\x80", "HTTP/1.1", "/ HTTP/1.1", "\"", xs(mostReason)} {
				answered = append(answered, response(status, reason, minor))
			}
		}
	}
	wantBack := func(r, other reading, lines ...api.Start) {
		for _, s := range lines {
			b, e := Print(s)
			if e != api.OK {
				t.Fatalf("Print of %s: %d", brief(s), e)
			}
			r.wantLine(t, strings.TrimSuffix(string(b), "\r\n"), s)
			if s, n, e := other.read(b); s != (api.Start{}) || n != 0 || e != api.ErrForm && e != api.ErrLong {
				t.Errorf("%s of %s is %s, %d, %d", other.name, brief(b), brief(s), n, e)
			}
			for n := range min(len(b), 300) {
				r.wantError(t, api.ErrMore, string(b[:n]), string(b[:len(b)-1]))
			}
		}
	}
	wantBack(ofRequest, ofResponse, asked...)
	wantBack(ofResponse, ofRequest, answered...)
}

// overlap: do a text and octets with their spare room share memory?
func overlap(s string, b []byte) bool {
	if s == "" || cap(b) == 0 {
		return false
	}
	p, q := uintptr(unsafe.Pointer(unsafe.StringData(s))), uintptr(unsafe.Pointer(unsafe.SliceData(b)))
	return p < q+uintptr(cap(b)) && q < p+uintptr(len(s))
}

// Of P6.3.
func TestNewMemory(t *testing.T) {
	for _, line := range []string{"GET /some/where HTTP/1.1\r\n", "HTTP/1.1 404 Not Found\r\n", "GET / HTTP/1.2\r\n", "GET /", "HTTP/1.1 404  \r\n"} {
		room := []byte(line + "behind it stands this")
		was := slices.Clone(room)
		handed := room[:len(line)]
		for _, r := range []reading{ofRequest, ofResponse} {
			s, n, e := r.read(handed)
			for _, text := range []string{s.Method, s.Target, s.Reason} {
				if overlap(text, room) {
					t.Errorf("%s of %q: %q shares its memory", r.name, line, text)
				}
			}
			if overlap(s.Method, unsafe.Slice(unsafe.StringData(s.Target), len(s.Target))) {
				t.Errorf("%s of %q: its texts share memory", r.name, line)
			}
			if !slices.Equal(room, was) {
				t.Errorf("%s changed what it was given: %q", r.name, room)
			}
			kept := fmt.Sprint(s)
			clear(room)
			if now := fmt.Sprint(s); now != kept {
				t.Errorf("%s of %q: %s became %s", r.name, line, kept, now)
			}
			copy(room, was)
			r.want(t, line, s, n, e)
		}
	}
	for _, s := range []api.Start{request("GET", "/some/where", 1), response(404, "Not Found", 0)} {
		first, _ := Print(s)
		again, _ := Print(s)
		for _, text := range []string{s.Method, s.Target, s.Reason} {
			if overlap(text, first) {
				t.Errorf("Print of %s shares its memory", brief(s))
			}
		}
		clear(first[:cap(first)])
		if next, _ := Print(s); !slices.Equal(next, again) {
			t.Errorf("Print of %s is %q, and then %q", brief(s), again, next)
		}
	}
}
