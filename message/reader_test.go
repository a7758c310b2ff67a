package message

import (
	"bytes"
	"slices"
	"strings"
	"testing"
	"unsafe"

	"icehouse/api"
)

// A step is what comes, and what is to be told of it: the body's octets, how many are taken, an error; and behind it: is there a head, is all of it taken?
type step struct {
	b, body string
	n       int
	e       api.Errno
	headed  bool
	done    bool
}

func (s step) want(t *testing.T, r *Reader, head api.Message) {
	t.Helper()
	body, n, e := r.Take([]byte(s.b))
	if string(body) != s.body || n != s.n || e != s.e || e != api.OK && body != nil {
		t.Errorf("Take(%s) is %s, %d, %d, not %s, %d, %d", brief(s.b), brief(body), n, e, brief(s.body), s.n, s.e)
	}
	if !s.headed {
		head = api.Message{}
	}
	if m, ok := r.Head(); ok != s.headed || !same(m, head) {
		t.Errorf("Head behind %s is %s, %t, not %s", brief(s.b), brief(m), ok, brief(head))
	}
	if r.Done() != s.done {
		t.Errorf("Done behind %s is %t", brief(s.b), r.Done())
	}
}

func wantSteps(t *testing.T, asks bool, method string, head api.Message, steps ...step) {
	t.Helper()
	r := NewReader(asks, method)
	if m, ok := r.Head(); ok || !zero(m) || r.Done() {
		t.Errorf("a new reader: %s, %t, %t", brief(m), ok, r.Done())
	}
	for _, s := range steps {
		s.want(t, r, head)
	}
}

// Of P8.2: what is taken of what comes, and what is left to come again.
func TestTake(t *testing.T) {
	m := asked(1, "", "a: b", "Content-Length: 4")
	wantSteps(t, true, "", m,
		step{}, step{b: "PUT /x"}, step{b: "PUT /x HTTP/1.1\r"}, step{b: "PUT /x HTTP/1.1\r\n", n: 17}, step{b: "a"}, step{b: "a: b\r\n"}, step{b: "a: b\r\nContent-Length: 4\r\n\r"},
		step{b: "a: b\r\nContent-Length: 4\r\n\r\n", n: 27, headed: true}, step{headed: true}, step{b: "w", body: "w", n: 1, headed: true}, step{b: "\r\n", body: "\r\n", n: 2, headed: true},
		step{b: "zw", body: "z", n: 1, headed: true, done: true}, step{b: "w", headed: true, done: true}, step{headed: true, done: true}, step{b: "\x00\n" + xs(2*mostHead), headed: true, done: true})
	wantSteps(t, true, "HEAD", m,
		step{b: "PUT /x HTTP/1.1\r\na: b\r\nConte", n: 17}, step{b: "a: b\r\nContent-Length: 4\r\n\r\nwx", body: "wx", n: 29, headed: true}, step{b: "yz", body: "yz", n: 2, headed: true, done: true})
	wantSteps(t, true, "", m, step{b: "PUT /x HTTP/1.1\r\na: b\r\nContent-Length: 4\r\n\r\nwxyzPUT", body: "wxyz", n: 48, headed: true, done: true}, step{b: "PUT", headed: true, done: true})
	// Without a body, and with an empty one.
	wantSteps(t, true, "", asked(0, "", "a: b"), step{b: "PUT /x HTTP/1.0\r\na: b\r\n\r", n: 17}, step{b: "a: b\r\n\r\nx", n: 8, headed: true, done: true}, step{b: "x", headed: true, done: true})
	wantSteps(t, true, "", asked(1, ""), step{b: "PUT /x HTTP/1.1\r\n", n: 17}, step{b: "\r\n", n: 2, headed: true, done: true})
	wantSteps(t, false, "GET", answered(200, 1, "", "Content-Length: 0"), step{b: "HTTP/1.1 200 So it is\r\nContent-Length: 0\r\n\r\nx", n: 44, headed: true, done: true})
	wantSteps(t, false, "GET", answered(204, 1, "", "Content-Length: 7"), step{b: "HTTP/1.1 204 So it is\r\nContent-Length: 7\r\n\r\nx", n: 44, headed: true, done: true})
	wantSteps(t, false, "HEAD", answered(200, 1, "", inChunks), step{b: "HTTP/1.1 200 So it is\r\n" + inChunks + "\r\n\r\n" + last, n: 53, headed: true, done: true})
	// In chunks: lines are taken whole, and nothing is told of the trailer.
	wantSteps(t, false, "GET", answered(200, 1, "", inChunks),
		step{b: "HTTP/1.1 200 So it is\r\n" + inChunks + "\r\n\r\n", n: 53, headed: true}, step{b: "3;x\r", headed: true}, step{b: "3;x\r\na", body: "a", n: 6, headed: true}, step{b: "bc\r", body: "bc", n: 2, headed: true}, step{b: "\r", headed: true},
		step{b: "\r\n1\r\nd\r\n0", body: "d", n: 8, headed: true}, step{b: "0\r\nT", n: 3, headed: true}, step{b: "T: Content-Length\r\n", n: 19, headed: true}, step{b: "\r", headed: true}, step{b: "\r\nHTTP", n: 2, headed: true, done: true}, step{b: "z\r\n", headed: true, done: true})
	wantSteps(t, false, "", answered(200, 1, "", inChunks), step{b: "HTTP/1.1 200 So it is\r\n" + inChunks + "\r\n\r\n2\r\nab\r\n" + last + "x", body: "ab", n: 65, headed: true, done: true})
	wantSteps(t, false, "", answered(200, 1, "", inChunks), step{b: "HTTP/1.1 200 So it is\r\n" + inChunks + "\r\n\r\n2", n: 53, headed: true}, step{b: last, n: 5, headed: true, done: true})
	// Two that don't touch one another.
	r, other := NewReader(true, ""), NewReader(false, "")
	step{b: "PUT /x HTTP/1.1\r\n", n: 17}.want(t, r, m)
	step{b: "HTTP/1.1 204 So it is\r\n\r\n", n: 25, headed: true, done: true}.want(t, other, answered(204, 1, ""))
	step{b: "a: b\r\nContent-Length: 4\r\n\r\nw", body: "w", n: 28, headed: true}.want(t, r, m)
}

// Of P8.2: an error takes and tells nothing, not even what stands ahead of it, and stays.
func TestTakeOfWrong(t *testing.T) {
	line, header, chunked := "PUT /x HTTP/1.1\r\n", "a: b\r\n\r\n", inChunks+"\r\n\r\n"
	coded := asked(1, "", inChunks)
	first := []step{{b: line + "a", n: 17}}
	framed := []step{{b: line + chunked, n: 47, headed: true}}
	begun := append(framed[:1:1], step{b: "2\r\na", body: "a", n: 4, headed: true})
	trailing := append(framed[:1:1], step{b: "0\r\n" + strings.Repeat("a:\r\n", mostFields), n: 3 + 4*mostFields, headed: true})
	for _, c := range []struct {
		first []step
		wrong string
		e     api.Errno
	}{
		{nil, "\r\n", api.ErrForm},
		{nil, "x\r\n" + header, api.ErrForm},
		{nil, xs(mostAsked), api.ErrLong},
		{nil, xs(33) + " / HTTP/1.1\r\n", api.ErrLong},
		{[]step{{b: xs(mostAsked - 1)}}, xs(mostAsked), api.ErrLong},
		{[]step{{b: "PUT /x"}}, "PUT /x\n", api.ErrForm},
		{nil, line + "x\r\n", api.ErrForm},
		{nil, line + "a: b\r\nx\r\n", api.ErrForm},
		{nil, line + xs(mostHead+1), api.ErrLong},
		{nil, line + strings.Repeat("a:\r\n", mostFields+1), api.ErrMany},
		{first, "a: b\r\nx\r\n", api.ErrForm},
		{first, xs(mostHead + 1), api.ErrLong},
		{[]step{{b: line + xs(mostHead), n: 17}, {b: xs(mostHead)}}, xs(mostHead+1) + "\r\n", api.ErrLong},
		{[]step{{b: line + strings.Repeat("a:\r\n", mostFields), n: 17}}, strings.Repeat("a:\r\n", mostFields+1) + "\r\n", api.ErrMany},
		{nil, line + "Content-Length: x\r\n\r\n", api.ErrForm},
		{nil, line + "Content-Length: 1048577\r\n\r\nx", api.ErrLong},
		{first, "a: b\r\nContent-Length: 1, 2\r\n\r\nab", api.ErrForm},
		{[]step{{b: line + "Content-Length: 1048577\r\n\r", n: 17}}, "Content-Length: 1048577\r\n\r\n", api.ErrLong},
		{nil, line + chunked + "z\r\n", api.ErrForm},
		{nil, line + chunked + "1\r\na\r\nz\r\n", api.ErrForm},
		{nil, line + chunked + "100001\r\n", api.ErrLong},
		{[]step{{b: line, n: 17}}, chunked + "1\r\nabc", api.ErrForm},
		{framed, "z\r\n", api.ErrForm},
		{framed, "2\r\nab\r\nz\r\n", api.ErrForm},
		{framed, xs(256), api.ErrLong},
		{framed, "1\r\na\r\n100000\r\n", api.ErrLong},
		{framed, "0\r\nx\r\n", api.ErrForm},
		{begun, "bcd", api.ErrForm},
		{trailing, "a:\r\n", api.ErrMany},
	} {
		r, headed := NewReader(true, ""), false
		for _, s := range c.first {
			s.want(t, r, coded)
			headed = s.headed
		}
		for _, b := range []string{c.wrong, c.wrong, "", line, header, "b: c\r\n\r\n", "b\r\n" + last, last, line + header, "\r\n", xs(2 * mostHead)} {
			step{b: b, e: c.e, headed: headed}.want(t, r, coded)
		}
	}
	// Of a response, too.
	r := NewReader(false, "GET")
	for _, b := range []string{"HTTP/1.1 200 OK\r\n\r\n", "HTTP/1.1 204 OK\r\n\r\n", ""} {
		step{b: b, e: api.ErrForm}.want(t, r, api.Message{})
	}
}

// wantPieces takes a text, cut at all these places, what wasn't taken ahead: behind each piece all is told that a reader tells to which the same came in one.
func wantPieces(t *testing.T, s string, asks bool, method string, cuts ...int) {
	t.Helper()
	r, told, n := NewReader(asks, method), []byte(nil), 0
	for _, to := range append(cuts, len(s)) {
		body, m, e := r.Take([]byte(s[n:to]))
		told, n = append(told, body...), n+m
		whole := NewReader(asks, method)
		all, most, f := whole.Take([]byte(s[:to]))
		if e != f || e != api.OK && (body != nil || m != 0 || r.Done()) {
			t.Errorf("%s, cut at %v: %s, %d, %d, not %d", brief(s), cuts, brief(body), m, e, f)
		}
		if e != api.OK {
			return
		}
		head, ok := r.Head()
		other, headed := whole.Head()
		if !bytes.Equal(told, all) || n != most || ok != headed || !same(head, other) || r.Done() != whole.Done() {
			t.Errorf("%s, cut at %v: %s, %d, %s, %t, %t, not %s, %d, %s, %t, %t", brief(s), cuts, brief(told), n, brief(head), ok, r.Done(), brief(all), most, brief(other), headed, whole.Done())
		}
	}
	head, _ := r.Head()
	head.Body = told
	if m, l, e := Parse([]byte(s), asks, method); r.Done() != (e == api.OK) || e == api.OK && (!same(head, m) || n != l) {
		t.Errorf("%s, cut at %v: %s, %d, %t, not %s, %d, %d", brief(s), cuts, brief(head), n, r.Done(), brief(m), l, e)
	}
}

// Of P8.4: two cuts at all places, and pieces of one length, of texts right and wrong.
func TestPieces(t *testing.T) {
	line := "PUT /x HTTP/1.1\r\n"
	for _, s := range []string{
		line + "a: b\r\n\r\nx", line + "Content-Length: 5\r\n\r\nab\r\ncde", line + inChunks + "\r\n\r\n2;x\r\nab\r\n1\r\nc\r\n0\r\nT: v\r\n\r\nx", line + inChunks + "\r\n\r\n1\r\na\r\nz\r\n", line + inChunks + "\r\n\r\n1\r\nab\r\n", line + "a: b\r\nx\r\n\r\n", line + "Content-Length: 1\r\n" + inChunks + "\r\n\r\nx", "PUT /x HTTP/1.1 \r\n\r\n", line + "Content-Length: 9\r\n\r\nabc",
	} {
		for i := range len(s) + 1 {
			for j := i; j <= len(s); j++ {
				wantPieces(t, s, true, "", i, j)
			}
		}
	}
	tell, great := "HTTP/1.1 200 "+xs(200)+"\r\n", strings.Repeat("a: b\r\n", mostFields-1)
	for _, s := range []string{tell + great + "Content-Length: 700\r\n\r\n" + xs(800), tell + great + inChunks + "\r\n\r\n2BC\r\n" + xs(700) + "\r\n" + last + "x", tell + great + "Content-Length: 1\r\na:\r\n\r\nx", xs(700), tell + great + inChunks + "\r\n\r\n1;" + xs(252) + "\r\na\r\n1;" + xs(253) + "\r\n"} {
		for by := 1; by < 400; by += 1 + by/20 {
			var cuts []int
			for i := by; i < len(s); i += by {
				cuts = append(cuts, i)
			}
			wantPieces(t, s, false, "GET", cuts...)
		}
	}
	for _, s := range []string{"M " + xs(8000) + " HTTP/1.1\r\na: " + xs(mostHead-7) + "\r\n\r\nx", "M " + xs(8000) + " HTTP/1.1\r\na: " + xs(mostHead-6) + "\r\n\r\nx", xs(2 * mostAsked), line + xs(2*mostHead)} {
		for _, by := range []int{1000, 8192, 8201, mostHead} {
			var cuts []int
			for i := by; i < len(s); i += by {
				cuts = append(cuts, i)
			}
			wantPieces(t, s, true, "", cuts...)
		}
	}
}

func overlap[T any](a, b []T) bool {
	if cap(a) == 0 || cap(b) == 0 {
		return false
	}
	size := unsafe.Sizeof(a[:1][0])
	p, q := uintptr(unsafe.Pointer(unsafe.SliceData(a))), uintptr(unsafe.Pointer(unsafe.SliceData(b)))
	return p < q+uintptr(cap(b))*size && q < p+uintptr(cap(a))*size
}

// inside: does a text stand in the memory of octets?
func inside(s string, b []byte) bool {
	return overlap(unsafe.Slice(unsafe.StringData(s), len(s)), b)
}

// wantApart: no text of a message, and no list, shares memory with octets, or with those of another one.
func wantApart(t *testing.T, what string, m api.Message, b []byte, others ...api.Message) {
	t.Helper()
	list := func(m api.Message) []string {
		all := []string{m.Method, m.Target, m.Reason}
		for _, f := range m.Fields {
			all = append(all, f.Name, f.Value)
		}
		return all
	}
	for _, s := range list(m) {
		if inside(s, b) {
			t.Errorf("%s: %q shares memory with what was handed in", what, s)
		}
		for _, o := range others {
			for _, u := range list(o) {
				if s != "" && u != "" && unsafe.StringData(s) == unsafe.StringData(u) {
					t.Errorf("%s: %q shares memory with another answer", what, s)
				}
			}
		}
	}
	for _, o := range others {
		if overlap(m.Fields, o.Fields) || overlap(m.Body, o.Body) {
			t.Errorf("%s: lists share memory", what)
		}
	}
	if overlap(m.Body, b) {
		t.Errorf("%s: the body shares memory with what was handed in", what)
	}
}

// Of P8.4: what is handed in has room behind it; it is neither changed nor kept, and each answer is its own.
func TestNewMemory(t *testing.T) {
	for _, s := range []string{"PUT /x HTTP/1.1\r\nAbc: def\r\nContent-Length: 3\r\n\r\nxyzrest", "PUT /x HTTP/1.1\r\nAbc: def\r\nTransfer-Encoding: chunked\r\n\r\n2\r\nab\r\n1\r\nc\r\n0\r\nT: v\r\n\r\nrest", "PUT /x HTTP/1.1\r\nAbc: def\r\n\r\nrest", "PUT /x HTTP/1.1\r\nAbc: def\r\nx\r\n\r\nrest"} {
		room := []byte(s + "behind it stands this")
		was := bytes.Clone(room)
		m, n, e := Parse(room[:len(s)], true, "")
		again, _, _ := Parse(room[:len(s)], true, "")
		wantApart(t, "Parse", m, room, again)
		if !bytes.Equal(room, was) {
			t.Errorf("Parse changes %s", brief(room))
		}
		clear(room)
		_ = append(m.Fields, api.Field{Name: "over"})
		clear(m.Fields[:cap(m.Fields)])
		clear(m.Body[:cap(m.Body)])
		want(t, s, true, "", again, n, e)
		for i := range len(s) + 1 {
			room := []byte(s + "behind it stands this")
			r := NewReader(true, "")
			first, n, _ := r.Take(room[:i])
			kept := string(first)
			early, headed := r.Head()
			next := bytes.Clone(was)
			if overlap(first, room) || !bytes.Equal(room, was) {
				t.Errorf("Take(%s) shares or changes: %s", brief(s[:i]), brief(room))
			}
			clear(room)
			second, _, f := r.Take(next[n:len(s)])
			if overlap(second, next) || overlap(first, second) || !bytes.Equal(next, was) || string(first) != kept || f != e {
				t.Errorf("Take(%s) behind %s shares or changes: %s, %d", brief(s[n:]), brief(s[:n]), brief(next), f)
			}
			clear(next)
			head, _ := r.Head()
			other, _ := r.Head()
			wantApart(t, "Head", head, next, early, other)
			clear(other.Fields[:cap(other.Fields)])
			clear(early.Fields[:cap(early.Fields)])
			if e == api.OK && (!slices.Equal(head.Fields, again.Fields) || head.Start != again.Start || head.Body != nil || string(first)+string(second) != string(again.Body)) {
				t.Errorf("%s, then %s: %s, %t", brief(s[:n]), brief(s[n:]), brief(head), headed)
			}
			if now, ok := r.Head(); e == api.OK && (!ok || !same(now, head)) {
				t.Errorf("Head became %s", brief(now))
			}
		}
	}
}

// Of P8.4: of what is printed, framed, and held to be right.
func TestNewMemoryOfPrint(t *testing.T) {
	for _, line := range []string{"Content-Length: 3", inChunks} {
		fs, body := fields("Abc: def", line, "spare: room"), []byte("xyzspare")
		m := api.Message{Start: api.Start{Status: 200, Minor: 1}, Fields: fs[:2], Body: body[:3]}
		first, e := Print(m, "GET")
		again, _ := Print(m, "GET")
		Framing(m, "GET")
		if e != api.OK || !Right(m, "GET") || overlap(first, again) || overlap(first, body) {
			t.Errorf("Print of %s shares: %d", brief(m), e)
		}
		clear(first[:cap(first)])
		if !strings.HasPrefix(string(again), "HTTP/1.1 200 \r\nAbc: def\r\n") || !slices.Equal(fs, fields("Abc: def", line, "spare: room")) || string(body) != "xyzspare" {
			t.Errorf("Print changes: %s, %s, %s", brief(again), brief(fs), body)
		}
	}
}
