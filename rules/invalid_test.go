package rules

import (
	"math"
	"slices"
	"strings"
	"testing"

	"icehouse/api"
	"icehouse/target"
)

func wantInvalidates(t *testing.T, u api.URI, method string, resp api.Message, want ...api.URI) {
	t.Helper()
	if got := Invalidates(u, method, resp); !slices.Equal(got, want) {
		t.Errorf("Invalidates of %s, %q, %s is %s, not %s", brief(u), method, brief(resp), brief(got), brief(want))
	}
}

// at are URIs of one host and port.
func at(u api.URI, paths ...string) []api.URI {
	all := []api.URI{u}
	for _, path := range paths {
		all = append(all, api.URI{Host: u.Host, Port: u.Port, Path: path})
	}
	return all
}

// Of P11.5: which methods and statuses.
func TestInvalidatesOfStarts(t *testing.T) {
	u := api.URI{Host: "a", Port: 80, Path: "/x"}
	for _, status := range statuses() {
		resp := answer(status, "Location", "/y")
		for _, method := range []string{"GET", "HEAD", "OPTIONS", "TRACE"} {
			wantInvalidates(t, u, method, resp)
		}
		for _, method := range []string{"POST", "PUT", "get", ""} {
			if status >= 200 && status <= 399 {
				wantInvalidates(t, u, method, resp, at(u, "/y")...)
			} else {
				wantInvalidates(t, u, method, resp)
			}
		}
	}
	for _, method := range other("GET", "HEAD", "OPTIONS", "TRACE") {
		wantInvalidates(t, u, method, answer(204), u)
		wantInvalidates(t, u, method, answer(404))
	}
	// The response's own method is nothing to it.
	resp := answer(200)
	resp.Method = "GET"
	wantInvalidates(t, u, "PUT", resp, u)
}

// Of P11.5: where the fields lead.
func TestInvalidates(t *testing.T) {
	u := api.URI{Host: "a.b", Port: 81, Path: "/d/x?q"}
	for _, c := range []struct {
		fs    []api.Field
		paths []string
	}{
		{nil, nil},
		{list("location", "/y"), []string{"/y"}},
		{list("LOCATION", "y"), []string{"/d/y"}},
		{list("Content-Location", "../y?r"), []string{"/y?r"}},
		{list("location", "?r"), []string{"/d/x?r"}},
		{list("location", "http://a.b:81"), []string{"/"}},
		{list("location", "HTTP://A.B:081/y"), []string{"/y"}},
		{list("location", "//a.b:81/./y/%7e"), []string{"/y/~"}},
		{list("Location", "/y", "Content-Location", "/z"), []string{"/y", "/z"}},
		{list("Content-Location", "/z", "Location", "/y"), []string{"/y", "/z"}},
		// Each once.
		{list("location", ""), nil},
		{list("location", "x?q"), nil},
		{list("location", "/d/x?q", "content-location", "http://a.b:81/d/x?q"), nil},
		{list("location", "/d/x?q", "content-location", "y"), []string{"/d/y"}},
		{list("location", "y", "content-location", "./%79"), []string{"/d/y"}},
		{list("location", "/y", "content-location", "/y?"), []string{"/y", "/y?"}},
		{list("location", "y", "content-location", ""), []string{"/d/y"}},
		{list("location", "x"), []string{"/d/x"}},
		{list("location", "/D/x?q"), []string{"/D/x?q"}},
		// At another host, or another port.
		{list("location", "http://a.b/y"), nil},
		{list("location", "http://a.b:80/y", "content-location", "/z"), []string{"/z"}},
		{list("location", "//a.b:8/y"), nil},
		{list("location", "http://a:81/y", "content-location", "//b:81/z"), nil},
		{list("location", "//a.b.:81/"), nil},
		{list("location", "//a.bc:81/"), nil},
		{list("location", "/y", "content-location", "//c:81/z"), []string{"/y"}},
		// Nowhere.
		{list("location", "https://a.b:81/y"), nil},
		{list("location", "a.b:81/y"), nil},
		{list("location", "/y z", "content-location", "/z"), []string{"/z"}},
		{list("location", "/y#z"), nil},
		{list("location", " /y"), nil},
		{list("location", "/%y"), nil},
		{list("location", "/\xff"), nil},
		{list("location", "http://"), nil},
		{list("location", "/"+strings.Repeat("y", 7999)), []string{"/" + strings.Repeat("y", 7999)}},
		{list("location", "/"+strings.Repeat("y", 8000), "content-location", "z"), []string{"/d/z"}},
		// They aren't the only ones.
		{list("location", "/y", "location", "/y"), nil},
		{list("location", "/y", "Location", "", "content-location", "/z"), []string{"/z"}},
		{list("location", "/y", "content-location", "/z", "Content-Location", "/z"), []string{"/y"}},
		{list("location", "/y, /z"), nil},
		{list("location", "/y,/z"), []string{"/y,/z"}},
		// Others lead nowhere.
		{list("locations", "/y", "contentlocation", "/z", "content_location", "/z", "link", "/w", "refresh", "/v", "etag", "/t", "uri", "/s", "", "/r"), nil},
	} {
		resp := answer(201)
		resp.Fields = c.fs
		wantInvalidates(t, u, "POST", resp, at(u, c.paths...)...)
		wantInvalidates(t, u, "GET", resp)
		resp.Status = 500
		wantInvalidates(t, u, "POST", resp)
	}
	v := api.URI{Host: "[::1]", Port: 80, Path: "/"}
	wantInvalidates(t, v, "M", answer(303, "location", "//[::1]/y", "content-location", "http://[::1]:80/z"), at(v, "/y", "/z")...)
	wantInvalidates(t, v, "M", answer(303, "location", "//[::01]/y", "content-location", "http://[::1]:8/z"), v)
}

// Of P11.5: a URI that isn't right is told as it is; nothing leads away from it.
func TestInvalidatesOfWrong(t *testing.T) {
	for _, u := range []api.URI{{}, {Path: "/x"}, {Host: "a", Port: 80}, {Host: "A", Port: 80, Path: "/x"}, {Host: "a", Port: -1, Path: "/x"}, {Host: "a", Port: 65536, Path: "/x"}, {Host: "a", Port: math.MinInt, Path: "/x"}, {Host: "a", Port: 80, Path: "x"}, {Host: "a", Port: 80, Path: "/x/../y"}, {Host: "a", Port: 80, Path: "/%7e"}, {Host: "", Port: 80, Path: "/x"}, {Host: "a/", Port: 80, Path: "/x"}, {Host: "a", Port: 80, Path: "/" + strings.Repeat("x", 8000)}} {
		for _, fs := range [][]api.Field{nil, list("location", ""), list("location", "/y"), list("location", "http://a/y", "content-location", "http://A/z")} {
			resp := answer(200)
			resp.Fields = fs
			wantInvalidates(t, u, "DELETE", resp, u)
			wantInvalidates(t, u, "TRACE", resp)
		}
	}
}

// Of P11.5: all short lists of some fields, by the chapter's words.
func TestInvalidatesOfAll(t *testing.T) {
	some := list("Location", "/y", "location", "", "location", "//b/y", "LOCATION", "z", "location", ":", "Content-Location", "/y", "content-location", "/d/z", "content-location", "http://a/w", "Content-location", "http://a:8/w", "Date", "/v")
	u := api.URI{Host: "a", Port: 80, Path: "/d/x"}
	most := 0
	for _, fs := range rows(4, some...) {
		want := []api.URI{u}
		for _, name := range []string{"location", "content-location"} {
			ref, ok := only(fs, name)
			if !ok {
				continue
			}
			v, e := target.Resolve(u, ref)
			if e == api.OK && v.Host == "a" && v.Port == 80 && !slices.Contains(want, v) {
				want = append(want, v)
			}
		}
		resp := answer(200)
		resp.Fields = fs
		wantInvalidates(t, u, "POST", resp, want...)
		if len(want) == 3 {
			most++
		}
	}
	if most < 50 {
		t.Errorf("%d: too few to tell", most)
	}
}
