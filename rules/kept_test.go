package rules

import (
	"bytes"
	"cmp"
	"reflect"
	"slices"
	"strings"
	"testing"
	"unsafe"

	"icehouse/api"
	"icehouse/octet"
)

// hops are the names that the chapter names.
var hops = []string{"connection", "keep-alive", "proxy-authenticate", "proxy-authorization", "proxy-connection", "te", "trailer", "transfer-encoding", "upgrade"}

func same(a, b api.Message) bool {
	return a.Start == b.Start && slices.Equal(a.Fields, b.Fields) && bytes.Equal(a.Body, b.Body)
}

// wantPass: also of Kept, which leaves out content-length, too; what was kept again is the same.
func wantPass(t *testing.T, fs, want []api.Field) {
	t.Helper()
	if got := Pass(fs); !slices.Equal(got, want) {
		t.Errorf("Pass of %s is %s, not %s", brief(fs), brief(got), brief(want))
	}
	resp := api.Message{Start: api.Start{Status: 203, Reason: "Fine", Minor: 1, Method: "M", Target: "/t"}, Fields: fs, Body: []byte("body")}
	lasting := resp
	lasting.Fields = nil
	for _, f := range want {
		if !strings.EqualFold(f.Name, "content-length") {
			lasting.Fields = append(lasting.Fields, f)
		}
	}
	kept := Kept(resp)
	if !same(kept, lasting) {
		t.Errorf("Kept of %s is %s, not %s", brief(resp), brief(kept), brief(lasting))
	}
	if again := Kept(kept); !same(again, kept) {
		t.Errorf("Kept of %s is %s", brief(kept), brief(again))
	}
	for _, f := range kept.Fields {
		if slices.Contains(hops, octet.Lower(f.Name)) {
			t.Errorf("%s is kept", brief(f))
		}
	}
}

// Of P11.3, P11.6: by their names.
func TestPass(t *testing.T) {
	wantPass(t, nil, nil)
	wantPass(t, []api.Field{}, nil)
	for _, name := range hops {
		for _, name := range []string{name, strings.ToUpper(name), strings.ToUpper(name[:1]) + name[1:], name[:1] + strings.ToUpper(name[1:])} {
			for _, value := range []string{"", "x", ",", "\""} {
				wantPass(t, list(name, value), nil)
				wantPass(t, list("A", "1", name, value, "b", "2", name, value, "a", "3"), list("A", "1", "b", "2", "a", "3"))
			}
		}
		for _, more := range []string{"y" + name, name + "y", name + "-y", "y-" + name, name[1:], name[:len(name)-1], name + " ", " " + name, strings.ReplaceAll(name, "-", "_") + "_"} {
			wantPass(t, list(more, "1"), list(more, "1"))
		}
	}
	// Of ends, not of hops; and letters are A to Z alone.
	for _, name := range []string{"", "Date", "ETag", "Set-Cookie", "Via", "Warning", "Content-Type", "Content-Encoding", "Content-Range", "Content-Length", "Host", "Expect", "Authorization", "WWW-Authenticate", "Cookie", "Age", "Accept", "Vary", "Trailers", "Proxy-Authentication-Info", "\u212aeep-alive", "\xff", "a b"} {
		wantPass(t, list(name, "1", name, "2"), list(name, "1", name, "2"))
	}
	wantPass(t, list("A", "1", "Content-Length", "2", "b", "3", "CONTENT-length", "x"), list("A", "1", "Content-Length", "2", "b", "3", "CONTENT-length", "x"))
}

// Of P11.3, P11.6: by what connection names.
func TestPassOfNamed(t *testing.T) {
	all := list("X", "1", "y", "2", "Date", "3", "x", "4", "\"x, y\"", "5", "xy", "6", "x y", "7", "", "8", "Content-Length", "9", "x=y", "a")
	without := func(names ...string) []api.Field {
		return slices.DeleteFunc(slices.Clone(all), func(f api.Field) bool { return slices.Contains(names, strings.ToLower(f.Name)) })
	}
	for value, names := range map[string][]string{
		"":                   nil,
		"close":              nil,
		"x":                  {"x"},
		"X":                  {"x"},
		"x, Y":               {"x", "y"},
		" ,Y ,, \tX\t,":      {"x", "y"},
		"DATE":               {"date"},
		"close, date, x":     {"date", "x"},
		"\"x, y\"":           {"\"x, y\""},
		"\"X, Y\", y":        {"\"x, y\"", "y"},
		"\"x":                nil,
		"y, \"x, date":       {"y"},
		"\"x\"":              nil,
		"x;y":                nil,
		"x=y":                {"x=y"},
		"x y":                {"x y"},
		"x\ty":               nil,
		"content-length":     {"content-length"},
		"connection":         nil,
		"te, keep-alive":     nil,
		"z, xx, dat, dates":  nil,
		"*":                  nil,
		"x, x, X, connected": {"x"},
	} {
		want := without(names...)
		wantPass(t, append(list("Connection", value), all...), want)
		wantPass(t, append(slices.Clone(all), list("CONNECTION", value)...), want)
		wantPass(t, slices.Concat(list("connection", "q"), all[:3], list("Connection", value, "TE", "x", "Q", "x"), all[3:], list("connection", "")), want)
	}
	// Of several values; each piece is of one of them.
	wantPass(t, append(list("connection", "x", "Connection", "y, \"", "connection", "date"), all...), without("x", "y", "date"))
	wantPass(t, append(list("connection", "da", "connection", "te"), all...), all)
	// Only connection names some.
	wantPass(t, append(list("proxy-connection", "x", "keep-alive", "y", "trailer", "date", "te", "x", "upgrade", "y"), all...), all)
	wantPass(t, append(list("connections", "x"), all...), append(list("connections", "x"), all...))
	// What it names may be named by it, too.
	wantPass(t, list("Connection", "connection, a", "A", "1", "connection", "B", "b", "2", "c", "3"), list("c", "3"))
	// A field that is named names none.
	wantPass(t, list("Connection", "a", "A", "b", "b", "2"), list("b", "2"))
}

// Of P11.3: all that is there of a response but the fields stays.
func TestKept(t *testing.T) {
	for _, body := range []string{"", "x", strings.Repeat("yz", 1<<20)} {
		for _, status := range []int{-1, 0, 100, 200, 206, 304, 999} {
			for _, reason := range []string{"", "Fine"} {
				m := api.Message{Start: api.Start{Method: reason, Target: reason, Status: status, Reason: reason, Minor: len(reason)}, Fields: list("TE", "x", "Content-Length", "3", "A", "b"), Body: []byte(body)}
				want := m
				want.Fields = list("A", "b")
				if got := Kept(m); !same(got, want) {
					t.Errorf("Kept of %s is %s", brief(m), brief(got))
				}
			}
		}
	}
	if got := Kept(api.Message{}); !same(got, api.Message{}) {
		t.Errorf("Kept of nothing is %s", brief(got))
	}
}

// wantUpdate: also of all that is no field.
func wantUpdate(t *testing.T, known, says, want []api.Field) {
	t.Helper()
	kept := api.Message{Start: api.Start{Status: 203, Reason: "Fine", Minor: 1, Method: "M", Target: "/t"}, Fields: known, Body: []byte("body")}
	resp := api.Message{Start: api.Start{Status: 304, Reason: "Not", Minor: 0, Method: "X", Target: "/x"}, Fields: says, Body: []byte("other")}
	got, all := Update(kept, resp), kept
	all.Fields = want
	if !same(got, all) {
		t.Errorf("Update of %s, %s is %s, not %s", brief(known), brief(says), brief(got), brief(all))
	}
	// It doesn't hang on what the response is.
	if again := Update(kept, api.Message{Fields: says}); !same(again, got) {
		t.Errorf("Update of %s, %s without all else is %s", brief(known), brief(says), brief(again))
	}
}

// Of P11.4.
func TestUpdate(t *testing.T) {
	known := list("ETag", "\"1\"", "A", "1", "Content-Type", "t", "b", "2", "a", "3", "Date", "4")
	for _, c := range []struct{ known, says, want []api.Field }{
		{nil, nil, nil},
		{known, nil, known},
		{nil, list("a", "1", "A", "2", "b", ""), list("a", "1", "A", "2", "b", "")},
		{known, list("a", "5"), list("ETag", "\"1\"", "Content-Type", "t", "b", "2", "Date", "4", "a", "5")},
		{known, list("DATE", "5", "c", "6", "A", "7", "date", "", "a", "7"), list("ETag", "\"1\"", "Content-Type", "t", "b", "2", "DATE", "5", "c", "6", "A", "7", "date", "", "a", "7")},
		{known, list("A", "1"), list("ETag", "\"1\"", "Content-Type", "t", "b", "2", "Date", "4", "A", "1")},
		{known, list("aa", "1", "", "2", "dat", "3"), append(slices.Clone(known), list("aa", "1", "", "2", "dat", "3")...)},
		// What tells of the body stays.
		{known, list("etag", "\"2\"", "ETAG", "\"1\"", "CONTENT-type", "u", "content-encoding", "v", "Content-Range", "w"), known},
		{known, list("etag", "\"2\"", "b", "x", "content-type", "u"), list("ETag", "\"1\"", "A", "1", "Content-Type", "t", "a", "3", "Date", "4", "b", "x")},
		{list("Content-Encoding", "1", "content-range", "2", "Content-Length", "3", "x", "4"), list("content-encoding", "5", "content-RANGE", "6", "content-length", "7", "x", "8"), list("Content-Encoding", "1", "content-range", "2", "Content-Length", "3", "x", "8")},
		{known, list("content-language", "1", "content-types", "2", "etags", "3", "content-location", "4"), append(slices.Clone(known), list("content-language", "1", "content-types", "2", "etags", "3", "content-location", "4")...)},
		// Neither a hop's fields nor content-length are kept.
		{known, list("Connection", "a, X", "A", "5", "x", "6", "b", "7", "TE", "8", "transfer-encoding", "9", "Content-Length", "0"), list("ETag", "\"1\"", "A", "1", "Content-Type", "t", "a", "3", "Date", "4", "b", "7")},
		{known, list("Connection", "close, date", "date", "5"), known},
		// What was kept isn't asked for these: it was without them.
		{list("connection", "b, date", "b", "1", "date", "2", "te", "3"), list("b", "4"), list("connection", "b, date", "date", "2", "te", "3", "b", "4")},
		{list("connection", "b", "b", "1", "te", "2"), list("connection", "c", "te", "3", "c", "4"), list("connection", "b", "b", "1", "te", "2")},
	} {
		wantUpdate(t, c.known, c.says, c.want)
	}
}

// piece is a field, and which ones it names, if it is connection.
type piece struct {
	api.Field
	names []string
}

// Of P11.3, P11.4, P11.6: all short lists of some fields, by the chapter's words.
func TestKeptOfAll(t *testing.T) {
	some := []piece{{Field: list("Connection", "x, Y")[0], names: []string{"x", "y"}}, {Field: list("connection", "\"x\",A")[0], names: []string{"\"x\"", "a"}}}
	for _, f := range list("X", "1", "y", "2", "a", "3", "\"X\"", "4", "Te", "5", "Content-Length", "6", "ETag", "7") {
		some = append(some, piece{Field: f})
	}
	var lists, kept [][]api.Field
	for _, row := range rows(4, some...) {
		gone := []string{"connection", "te"}
		var fs, passed []api.Field
		for _, p := range row {
			gone = append(gone, p.names...)
		}
		for _, p := range row {
			fs = append(fs, p.Field)
			if !slices.Contains(gone, strings.ToLower(p.Name)) {
				passed = append(passed, p.Field)
			}
		}
		wantPass(t, fs, passed)
		if len(row) < 4 {
			lists = append(lists, fs)
			kept = append(kept, slices.DeleteFunc(passed, func(f api.Field) bool { return f.Name == "Content-Length" }))
		}
	}
	for i, known := range kept {
		if i%5 != 0 && i > 91 {
			continue
		}
		for j, says := range lists {
			if j%3 != 0 && j > 91 {
				continue
			}
			want, anew := []api.Field{}, []api.Field{}
			for _, f := range known {
				if f.Name == "ETag" || !slices.ContainsFunc(kept[j], func(g api.Field) bool { return f.Name == g.Name }) {
					want = append(want, f)
				}
			}
			for _, f := range kept[j] {
				if f.Name != "ETag" {
					anew = append(anew, f)
				}
			}
			wantUpdate(t, known, says, append(want, anew...))
			// What is kept anew is as if it had been kept.
			m := Update(api.Message{Fields: known}, api.Message{Fields: says})
			if again := Kept(m); !same(again, m) {
				t.Errorf("Kept of Update %s is %s", brief(m), brief(again))
			}
		}
		if t.Failed() {
			return
		}
	}
}

func place[T any](p *T) uintptr { return uintptr(unsafe.Pointer(p)) }

// span is where a text is.
func span(s string) [2]uintptr {
	from := place(unsafe.StringData(s))
	return [2]uintptr{from, from + uintptr(len(s))}
}

// spans are where a message's texts and body are.
func spans(m api.Message) [][2]uintptr {
	all := [][2]uintptr{span(m.Method), span(m.Target), span(m.Reason)}
	for _, f := range m.Fields {
		all = append(all, span(f.Name), span(f.Value))
	}
	from := place(unsafe.SliceData(m.Body))
	return append(all, [2]uintptr{from, from + uintptr(cap(m.Body))})
}

// wantApart: no two of them overlap.
func wantApart(t *testing.T, what string, all ...[2]uintptr) {
	t.Helper()
	slices.SortFunc(all, func(a, b [2]uintptr) int { return cmp.Compare(a[0], b[0]) })
	for i := 1; i < len(all); i++ {
		if all[i][0] < all[i-1][1] && all[i-1][0] < all[i][1] {
			t.Errorf("%s: there is memory that is shared", what)
			return
		}
	}
}

// full is a message with room to spare, of texts that stand by themselves.
func full(status int, texts ...string) api.Message {
	m := api.Message{Start: api.Start{Method: "GET", Target: "/target", Status: status, Reason: "Reason", Minor: 1}, Fields: list(texts...), Body: []byte("bodyspare")}
	m.Method, m.Target, m.Reason = strings.Clone(m.Method), strings.Clone(m.Target), strings.Clone(m.Reason)
	for i, f := range m.Fields {
		m.Fields[i] = api.Field{Name: strings.Clone(f.Name), Value: strings.Clone(f.Value)}
	}
	m.Fields = append(m.Fields, list("spare", "room", "connection", "etag")...)[:len(m.Fields)]
	m.Body = m.Body[:4]
	return m
}

// Of P11.6.
func TestNewMemory(t *testing.T) {
	told := []string{"ETag", "\"tag\"", "Last-Modified", when(1000), "Connection", "gone", "Gone", "value", "Age", "seven", "Other", "thing", "Cache-Control", "max-age=9, no-cache", "Vary", "other", "Location", "/elsewhere", "Content-Location", "here"}
	kept, resp, req := full(200, told...), full(304, told...), full(0, "If-None-Match", "\"tag\"", "Cache-Control", "no-store", "Pragma", "no-cache", "Connection", "age", "Age", "x")
	resp.Reason = "Another"
	u := api.URI{Host: strings.Clone("host"), Port: 80, Path: strings.Clone("/path/x")}
	var again [][2]uintptr
	for range 2 {
		a, b, c := Kept(kept), Update(kept, resp), Pass(kept.Fields)
		d, e, f := Condition(kept), Ask(req), Invalidates(u, "POST", kept)
		if len(a.Fields) != 8 || len(b.Fields) != 10 || len(c) != 8 || len(d) != 2 || !e.NoStore || len(f) != 3 {
			t.Errorf("%s, %s, %s, %s, %s, %s", brief(a), brief(b), brief(c), brief(d), brief(e), brief(f))
		}
		if Own(kept) || !Own(req) || Storable(req, resp) || !Confirms(kept, resp) || !Unchanged(req, kept) {
			t.Error("it hangs on what was asked ahead")
		}
		again = slices.Concat(again, spans(a), spans(b), spans(api.Message{Fields: c}), [][2]uintptr{span(d[0].Value), span(d[1].Value)})
		for _, v := range f {
			again = append(again, span(v.Host), span(v.Path))
		}
		for _, fs := range [][]api.Field{a.Fields, b.Fields, c, d} {
			_ = append(fs, api.Field{Name: "over"})
			clear(fs[:cap(fs)])
		}
		for _, body := range [][]byte{a.Body, b.Body} {
			_ = append(body, "over"...)
			clear(body[:cap(body)])
		}
		clear(f[:cap(f)])
	}
	wantApart(t, "answers", slices.Concat(again, spans(kept), spans(resp), spans(req), [][2]uintptr{span(u.Host), span(u.Path)})...)
	for _, m := range []struct{ is, was api.Message }{{kept, full(200, told...)}, {resp, full(304, told...)}, {req, full(0, "If-None-Match", "\"tag\"", "Cache-Control", "no-store", "Pragma", "no-cache", "Connection", "age", "Age", "x")}} {
		n := len(m.was.Fields)
		m.was.Reason = m.is.Reason
		if !reflect.DeepEqual(m.is, m.was) || !slices.Equal(m.is.Fields[:n+2], m.was.Fields[:n+2]) || string(m.is.Body[:9]) != "bodyspare" {
			t.Errorf("what was handed in is %s", brief(m.is))
		}
	}
}

// Of P11.6: what is changed behind a call by who handed it in doesn't count.
func TestNothingKept(t *testing.T) {
	m := answer(200, "A", "1", "Connection", "b", "b", "2")
	m.Body = []byte("body")
	kept, passed := Kept(m), Pass(m.Fields)
	clear(m.Body)
	m.Fields[0], m.Fields[1] = m.Fields[2], api.Field{}
	if string(kept.Body) != "body" || !slices.Equal(kept.Fields, list("A", "1")) || !slices.Equal(passed, list("A", "1")) {
		t.Errorf("what is kept is %s, %s", brief(kept), brief(passed))
	}
	if got := Pass(m.Fields); !slices.Equal(got, list("b", "2", "", "", "b", "2")) {
		t.Errorf("Pass is %s", brief(got))
	}
}

// Messages as great as one likes.
func TestGreat(t *testing.T) {
	m := answer(200)
	for i := range 50000 {
		m.Fields = append(m.Fields, list("Connection", "x"+strings.Repeat("y", i%50)+", z", "X"+strings.Repeat("y", i%60), "1", "Vary", "a, b", "Cache-Control", "max-age=5")...)
	}
	if got := Kept(m); len(got.Fields) < 100000 || len(got.Fields) > 110000 {
		t.Errorf("Kept of many: %d", len(got.Fields))
	}
	if got := Update(m, m); len(got.Fields) < 200000 {
		t.Errorf("Update of many: %d", len(got.Fields))
	}
	wantStorable(t, request("GET"), m, true)
	wantConfirms(t, m, answer(304), true)
	tags := request("GET", "If-None-Match", strings.Repeat("\"a\", ", 200000)+"W/\"x\"")
	wantUnchanged(t, tags, answer(200, "etag", "\"x\""), true)
	wantUnchanged(t, tags, answer(200, "etag", "\"y\""), false)
	if Own(m) || Ask(m).MaxAge != 5 {
		t.Error("Own, Ask of many")
	}
	long := strings.Repeat("x", 1<<20)
	if got := Pass(list("connection", long, long, "1", "a", long)); !slices.Equal(got, list("a", long)) {
		t.Errorf("Pass of long: %s", brief(got))
	}
}
