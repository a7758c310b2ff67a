package rules

import (
	"fmt"
	"math"
	"slices"
	"strings"
	"testing"

	"icehouse/api"
	"icehouse/control"
	"icehouse/date"
	"icehouse/fresh"
)

// list are fields of names and values, by turns.
func list(texts ...string) []api.Field {
	var fs []api.Field
	for i := 0; i < len(texts); i += 2 {
		fs = append(fs, api.Field{Name: texts[i], Value: texts[i+1]})
	}
	return fs
}

func request(method string, texts ...string) api.Message {
	return api.Message{Start: api.Start{Method: method, Target: "/", Minor: 1}, Fields: list(texts...)}
}

func answer(status int, texts ...string) api.Message {
	return api.Message{Start: api.Start{Status: status, Minor: 1}, Fields: list(texts...)}
}

// when is a moment's first form.
func when(at int) string {
	s, e := date.Print(at)
	if e != api.OK {
		panic(e)
	}
	return s
}

// whenElse are a moment's other two.
func whenElse(at int) (string, string) {
	all, e := date.Forms(at)
	if e != api.OK {
		panic(e)
	}
	return all[1], all[2]
}

func brief(x any) string {
	s := fmt.Sprintf("%+v", x)
	if len(s) > 300 {
		return s[:300] + " .."
	}
	return s
}

// rows are all rows of at most so many of some things, the shortest first.
func rows[T any](most int, some ...T) [][]T {
	all := [][]T{nil}
	for from := 0; most > 0; most-- {
		to := len(all)
		for _, row := range all[from:to] {
			for _, x := range some {
				all = append(all, append(slices.Clone(row), x))
			}
		}
		from = to
	}
	return all
}

// statuses are some that there may be, and some that there may not.
func statuses() []int {
	some := []int{math.MinInt, -200, -1, math.MaxInt, 200 + 1<<32, 304 - 1<<32}
	for status := range 1100 {
		some = append(some, status)
	}
	return some
}

// other are methods that are none of some that are named, though they look like them.
func other(methods ...string) []string {
	all := []string{"", "POST", "PUT", "DELETE", "PATCH", "CONNECT", "X", "G", "*"}
	for _, m := range methods {
		all = append(all, strings.ToLower(m), m[:1]+strings.ToLower(m[1:]), strings.ToLower(m[:1])+m[1:], m+" ", " "+m, m+"S", m[1:], m[:len(m)-1], m+m, m+"\x00")
	}
	return all
}

func wantAsk(t *testing.T, m api.Message, want api.Control) {
	t.Helper()
	if got := Ask(m); got != want {
		t.Errorf("Ask of %s is %+v, not %+v", brief(m), got, want)
	}
}

// Of P11.1: by cache-control.
func TestAsk(t *testing.T) {
	wantAsk(t, request("GET"), api.Control{MaxAge: -1, SMaxAge: -1, MaxStale: -1, MinFresh: -1})
	wantAsk(t, request("GET", "Cache-Control", "Max-Age=\"60\", x=y, no-store", "a", "no-cache", "CACHE-CONTROL", "max-age=5, Max-Stale"), api.Control{NoStore: true, MaxAge: 60, SMaxAge: -1, MaxStale: math.MaxInt32, MinFresh: -1})
	wantAsk(t, request("", "cache-control", "no-cache, public, private, must-revalidate, proxy-revalidate, only-if-cached, s-maxage=4, min-fresh=3"), api.Control{NoCache: true, Public: true, Private: true, Must: true, Proxy: true, OnlyIf: true, MaxAge: -1, SMaxAge: 4, MaxStale: -1, MinFresh: 3})
	for _, name := range []string{"cachecontrol", "cache_control", "cache-contro", "cache-controls", " cache-control", "cache-control ", "", "expires", "Pragma", "control"} {
		wantAsk(t, request("GET", name, "no-store, max-age=3"), control.None())
	}
	// Of any message.
	for _, status := range []int{-1, 100, 200, 304, 999} {
		wantAsk(t, answer(status), control.None())
		wantAsk(t, answer(status, "cache-control", "private, s-maxage=8"), control.Parse("private, s-maxage=8"))
	}
}

// Of P11.1: by pragma.
func TestAskOfPragma(t *testing.T) {
	said := control.None()
	said.NoCache = true
	for _, value := range []string{"no-cache", "No-Cache", "NO-CACHE", "nO-cAChE", " no-cache", "no-cache\t", ",no-cache,", "x, no-cache", "x=\"a,b\",no-cache , y", "\"x, y\", no-cache", "no-cache, no-cache"} {
		wantAsk(t, request("GET", "Pragma", value), said)
		wantAsk(t, request("M", "a", "b", "PRAGMA", "x", "pragma", value, "pragma", "y", "c", "d"), said)
		// What cache-control says, though that be nothing, is all.
		for _, says := range []string{"", "x", "max-age=5", "no-store", ",", "no-cache=", "pragma"} {
			wantAsk(t, request("GET", "Pragma", value, "Cache-Control", says), control.Parse(says))
			wantAsk(t, request("GET", "cache-CONTROL", says, "pragma", value), control.Parse(says))
		}
		// Not of a response.
		for _, status := range []int{-1, 1, 200, 304} {
			wantAsk(t, answer(status, "Pragma", value), control.None())
		}
	}
	for _, value := range []string{"", "x", "no-store", "nocache", "no cache", "no-cache=x", "no-cache=", "no-cache x", "xno-cache", "no-cach", "no-caches", "\"no-cache\"", "\"x, no-cache\"", "x \"y, no-cache", "x;no-cache", "no-cache;x", "max-age=0", "no-\u212aache", "no_cache"} {
		wantAsk(t, request("GET", "Pragma", value), control.None())
	}
	for _, name := range []string{"pragmas", "pragm", "", "pragma ", "cache", "x-pragma"} {
		wantAsk(t, request("GET", name, "no-cache"), control.None())
	}
	// A piece is of one value; a mark that isn't closed reaches to that one's end.
	wantAsk(t, request("GET", "pragma", "no", "pragma", "-cache"), control.None())
	wantAsk(t, request("GET", "pragma", "\"x", "pragma", "no-cache"), said)
}

// Of P11.1.
func TestOwn(t *testing.T) {
	named := []string{"if-none-match", "if-modified-since", "if-match", "if-unmodified-since", "if-range", "range"}
	others := []string{"", "if", "if-", "match", "none-match", "modified-since", "ranges", "accept-ranges", "content-range", "if-none", "if-matches", "if-modified", "unmodified-since", "cache-control", "pragma", "etag", "last-modified", "expect", " range", "range ", "if_match", "accept"}
	for _, name := range named {
		for _, name := range []string{name, strings.ToUpper(name), strings.ToUpper(name[:1]) + name[1:], name[:1] + strings.ToUpper(name[1:])} {
			for _, value := range []string{"", "x", "*", "bytes=0-1"} {
				for _, m := range []api.Message{request("GET", name, value), request("", "a", "b", name, value, "c", "d"), request("PUT", name, value, name, value), answer(200, name, value)} {
					if !Own(m) {
						t.Errorf("Own of %s is false", brief(m))
					}
				}
			}
		}
		for _, more := range []string{"x" + name, name + "x", name + "-x", "x-" + name, name[1:], name[:len(name)-1]} {
			others = append(others, more)
		}
	}
	others = slices.DeleteFunc(others, func(s string) bool { return slices.Contains(named, s) })
	for _, name := range others {
		if m := request("GET", name, "range", "a", "if-match"); Own(m) {
			t.Errorf("Own of %s is true", brief(m))
		}
	}
	if Own(request("GET")) || Own(api.Message{}) {
		t.Error("Own of no fields is true")
	}
}

func wantStorable(t *testing.T, req, resp api.Message, want bool) {
	t.Helper()
	if Storable(req, resp) != want {
		t.Errorf("Storable of %s, %s isn't %t", brief(req), brief(resp), want)
	}
}

// Of P11.2: which methods and statuses.
func TestStorableOfStarts(t *testing.T) {
	for _, method := range other("GET", "HEAD", "OPTIONS", "TRACE") {
		wantStorable(t, request(method), answer(200, "cache-control", "public, max-age=9"), false)
	}
	for _, method := range []string{"HEAD", "OPTIONS", "TRACE"} {
		wantStorable(t, request(method), answer(200, "cache-control", "public, max-age=9"), false)
	}
	for _, status := range statuses() {
		may := status >= 200 && status != 206 && status != 304
		wantStorable(t, request("GET"), answer(status), may && fresh.Heuristic(status))
		wantStorable(t, request("GET"), answer(status, "Cache-Control", "max-age=0"), may)
		wantStorable(t, request("GET"), answer(status, "Cache-Control", "s-maxage=0"), may)
		wantStorable(t, request("GET"), answer(status, "Cache-Control", "public"), may)
		wantStorable(t, request("GET"), answer(status, "Expires", "0"), may)
		wantStorable(t, request("GET"), answer(status, "Cache-Control", "private, max-age=9"), false)
		wantStorable(t, request("GET"), answer(status, "Cache-Control", "must-revalidate, max-stale=3, min-fresh=3", "Last-Modified", when(0), "Date", when(100)), may && fresh.Heuristic(status))
	}
	// The request's status, the response's method are nothing to it.
	for _, status := range []int{-1, 100, 200, 206, 304, 500} {
		req, resp := request("GET"), answer(200)
		req.Status, resp.Method = status, "POST"
		wantStorable(t, req, resp, true)
		resp.Status = 206
		wantStorable(t, req, resp, false)
	}
	wantStorable(t, api.Message{}, api.Message{}, false)
	wantStorable(t, answer(200), request("GET"), false)
}

// Of P11.2: which fields.
func TestStorable(t *testing.T) {
	for _, c := range []struct {
		asks, says []api.Field
		want       bool
	}{
		{nil, nil, true},
		{nil, list("cache-control", "max-age=0"), true},
		{nil, list("cache-control", "max-age=0, private"), false},
		{list("range", "bytes=0-1"), nil, false},
		{list("RANGE", ""), list("cache-control", "public, max-age=9"), false},
		{list("Ranges", "x", "if-range", "y", "accept-ranges", "z"), nil, true},
		{nil, list("range", "x", "content-range", "y", "accept-ranges", "z"), true},
		{list("if-none-match", "*", "if-modified-since", when(0), "if-match", "x"), nil, true},

		{list("cache-control", "no-store"), list("cache-control", "public, max-age=9"), false},
		{list("a", "b", "Cache-Control", "x", "CACHE-CONTROL", "y, No-Store=\"z\""), nil, false},
		{nil, list("cache-control", "no-store"), false},
		{nil, list("cache-control", "public, s-maxage=9", "Cache-Control", "NO-STORE"), false},
		{list("cache-control", "no_store, nostore, \"no-store\", no-store=, x=no-store"), list("cache-control", "no-stores, no store"), true},
		{list("pragma", "no-store"), list("pragma", "no-store, no-cache"), true},
		{list("cache-control", "no-cache, max-age=0, only-if-cached, private"), list("cache-control", "no-cache"), true},
		{list("pragma", "no-cache"), nil, true},
		{nil, list("cache-control", "private"), false},
		{nil, list("cache-control", "Private=\"set-cookie\""), false},
		{nil, list("cache-control", "public, private, max-age=9"), false},
		{nil, list("cache-control", "x=private, \"private\", private="), true},

		{list("authorization", "x"), nil, false},
		{list("Authorization", ""), list("cache-control", "max-age=9, proxy-revalidate, no-cache", "expires", when(9)), false},
		{list("authorization", "x"), list("Cache-Control", "public"), true},
		{list("authorization", "x"), list("Cache-Control", "must-revalidate"), true},
		{list("authorization", "x"), list("Cache-Control", "s-maxage=0"), true},
		{list("authorization", "x"), list("Cache-Control", "s-maxage"), true},
		{list("authorization", "x"), list("Cache-Control", "s-maxage=99999999999"), true},
		{list("authorization", "x", "cache-control", "public, must-revalidate, s-maxage=9"), nil, false},
		{list("authorization", "x"), list("Cache-Control", "public, private"), false},
		{list("authorization", "x"), list("Cache-Control", "public, no-store"), false},
		{list("authorization", "x", "cache-control", "no-store"), list("Cache-Control", "public"), false},
		{list("authorization", "x", "range", "y"), list("Cache-Control", "public"), false},
		{list("proxy-authorization", "x", "authorizations", "y", "www-authenticate", "z"), nil, true},
		{nil, list("authorization", "x"), true},

		{nil, list("vary", "*"), false},
		{nil, list("Vary", "a", "VARY", "b, *"), false},
		{nil, list("vary", "a b"), false},
		{nil, list("vary", "\"a\""), false},
		{nil, list("vary", "*", "cache-control", "public, max-age=9"), false},
		{nil, list("vary", "a, Accept-Encoding", "vary", ""), true},
		{nil, list("vary", "x*"), true},
		{nil, list("vary", ","), true},
		{list("vary", "*"), nil, true},
	} {
		req, resp := request("GET"), answer(200)
		req.Fields, resp.Fields = c.asks, c.says
		wantStorable(t, req, resp, c.want)
		// No body keeps it from being so.
		req.Body, resp.Body = []byte("x"), []byte(strings.Repeat("y", 1<<20+1))
		wantStorable(t, req, resp, c.want)
		req.Method = "POST"
		wantStorable(t, req, resp, false)
		req.Method, resp.Status = "GET", 206
		wantStorable(t, req, resp, false)
	}
	// Of a status that alone doesn't say that it may be kept.
	for _, c := range []struct {
		says []api.Field
		want bool
	}{
		{nil, false},
		{list("cache-control", "must-revalidate, no-cache, proxy-revalidate, min-fresh=9, max-stale=9"), false},
		{list("cache-control", "max-age=0"), true},
		{list("cache-control", "max-age"), true},
		{list("cache-control", "max-age="), false},
		{list("cache-control", "s-maxage=x"), true},
		{list("cache-control", "public"), true},
		{list("expires", "0"), true},
		{list("Expires", ""), true},
		{list("Expires", when(9), "Expires", when(9)), true},
		{list("expire", when(9), "last-modified", when(9), "date", when(99), "age", "3", "etag", "\"x\""), false},
	} {
		resp := answer(302)
		resp.Fields = c.says
		wantStorable(t, request("GET"), resp, c.want)
		// What a request says is nothing to how long.
		wantStorable(t, request("GET", "cache-control", "public, max-age=9, s-maxage=9", "expires", when(9)), resp, c.want)
	}
}

// fact is a field, and what it makes so: N no-store, P private, U public, M must-revalidate, S s-maxage, L a lifetime is said, V it can't be told by what it varies, R a range, A an authorization.
type fact struct {
	api.Field
	is string
}

func facts(texts ...string) []fact {
	var all []fact
	for i := 0; i < len(texts); i += 3 {
		all = append(all, fact{api.Field{Name: texts[i], Value: texts[i+1]}, texts[i+2]})
	}
	return all
}

// of is a message's fields, and all that they make so.
func of(row []fact) ([]api.Field, string) {
	var fs []api.Field
	is := ""
	for _, f := range row {
		fs = append(fs, f.Field)
		is += f.is
	}
	return fs, is
}

// mayBeKept: by the chapter's words.
func mayBeKept(asks, says string, status int) bool {
	switch {
	case strings.ContainsAny(asks, "RN") || strings.ContainsAny(says, "NPV"):
		return false
	case status < 200 || status == 206 || status == 304:
		return false
	case strings.Contains(asks, "A") && !strings.ContainsAny(says, "UMS"):
		return false
	}
	return strings.ContainsAny(says, "LU") || slices.Contains([]int{200, 203, 204, 300, 301, 308, 404, 405, 410, 414, 501}, status)
}

// Of P11.2: all short lists of some fields, of both.
func TestStorableOfAll(t *testing.T) {
	asks := facts("Cache-Control", "no-store, max-age=1", "N", "cache-control", "private, public, must-revalidate, s-maxage=3", "", "Range", "x", "R", "authorization", "y", "A", "Vary", "*", "", "expires", "0", "")
	says := facts("Cache-Control", "No-Store", "N", "cache-control", "private=x", "P", "CACHE-CONTROL", "public", "U", "cache-control", "must-revalidate", "M", "cache-control", "s-maxage=0", "SL", "Cache-control", "max-age=5", "L", "cache-Control", "proxy-revalidate, no-cache", "",
		"Expires", "x", "L", "vary", "*", "V", "Vary", "a", "", "vary", "a b", "V", "Range", "x", "", "Authorization", "y", "", "Last-Modified", when(5), "", "pragma", "no-cache", "")
	yes, no := 0, 0
	for _, asked := range rows(2, asks...) {
		req := request("GET")
		var ask string
		req.Fields, ask = of(asked)
		for _, said := range rows(2, says...) {
			resp := answer(0)
			var say string
			resp.Fields, say = of(said)
			for _, status := range []int{199, 200, 206, 302, 304, 404} {
				resp.Status = status
				want := mayBeKept(ask, say, status)
				wantStorable(t, req, resp, want)
				if want {
					yes++
				} else {
					no++
				}
			}
		}
		if t.Failed() {
			return
		}
	}
	if yes < 5000 || no < 5000 {
		t.Errorf("%d and %d: too few to tell", yes, no)
	}
}
