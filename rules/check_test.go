package rules

import (
	"slices"
	"strings"
	"testing"

	"icehouse/api"
	"icehouse/date"
)

func wantCondition(t *testing.T, kept api.Message, want []api.Field) {
	t.Helper()
	if got := Condition(kept); !slices.Equal(got, want) {
		t.Errorf("Condition of %s is %q, not %q", brief(kept), got, want)
	}
}

// Of P11.4.
func TestCondition(t *testing.T) {
	second, third := whenElse(1000)
	for _, c := range []struct{ fs, want []api.Field }{
		{nil, nil},
		{list("a", "b", "tag", "\"x\"", "etags", "\"x\"", "last_modified", when(3), "modified", when(3), "date", when(3), "if-none-match", "\"x\"", "if-modified-since", when(3)), nil},
		{list("ETag", "\"x\""), list("If-None-Match", "\"x\"")},
		{list("etag", "W/\"x\""), list("If-None-Match", "W/\"x\"")},
		{list("a", "b", "ETAG", "w/\"x\", *"), list("If-None-Match", "w/\"x\", *")},
		{list("etag", "x"), list("If-None-Match", "x")},
		{list("etag", "*"), list("If-None-Match", "*")},
		{list("etag", ""), list("If-None-Match", "")},
		{list("etag", "W/"), list("If-None-Match", "W/")},
		{list("etag", "\"x\"", "ETag", "\"x\""), nil},
		{list("etag", "\"x\"", "ETag", ""), nil},
		{list("Last-Modified", when(1000)), list("If-Modified-Since", when(1000))},
		{list("LAST-modified", second), list("If-Modified-Since", second)},
		{list("last-modified", third), list("If-Modified-Since", third)},
		{list("last-modified", when(0)), list("If-Modified-Since", when(0))},
		{list("last-modified", when(253402300799)), list("If-Modified-Since", when(253402300799))},
		{list("last-modified", when(1000), "Last-Modified", when(1000)), nil},
		{list("last-modified", when(1000), "Last-Modified", ""), nil},
		{list("last-modified", ""), nil},
		{list("last-modified", "0"), nil},
		{list("last-modified", "1000"), nil},
		{list("last-modified", when(1000)+" "), nil},
		{list("last-modified", when(1000)+", "+when(1000)), nil},
		{list("last-modified", strings.ToLower(when(1000))), nil},
		{list("last-modified", strings.Replace(when(1000), "Thu", "Fri", 1)), nil},
		{list("last-modified", strings.Replace(when(1000), "GMT", "UTC", 1)), nil},
		{list("last-modified", when(1000), "etag", "\"x\""), list("If-None-Match", "\"x\"", "If-Modified-Since", when(1000))},
		{list("etag", "\"x\"", "last-modified", "x"), list("If-None-Match", "\"x\"")},
		{list("etag", "\"x\"", "last-modified", when(1000), "etag", "\"y\""), list("If-Modified-Since", when(1000))},
	} {
		for _, status := range []int{200, 404, 0, 304} {
			m := answer(status)
			m.Fields = c.fs
			wantCondition(t, m, c.want)
		}
	}
}

func wantConfirms(t *testing.T, kept, resp api.Message, want bool) {
	t.Helper()
	if Confirms(kept, resp) != want {
		t.Errorf("Confirms of %s, %s isn't %t", brief(kept), brief(resp), want)
	}
}

// Of P11.4.
func TestConfirms(t *testing.T) {
	second, _ := whenElse(1000)
	both := list("ETag", "\"x\"", "Last-Modified", when(1000))
	for _, c := range []struct {
		kept, says []api.Field
		want       bool
	}{
		{nil, nil, true},
		{both, nil, true},
		{list("etag", "\"x\"", "etag", "\"y\""), list("date", when(5), "expires", "0"), true},

		{both, list("etag", "\"x\""), true},
		{both, list("ETAG", "W/\"x\""), true},
		{both, list("etag", "\"y\""), false},
		{both, list("etag", "W/\"y\""), false},
		{both, list("etag", "w/\"x\""), false},
		{both, list("etag", "W/ \"x\""), false},
		{both, list("etag", "W\"x\""), false},
		{both, list("etag", "/\"x\""), false},
		{both, list("etag", "W/W/\"x\""), false},
		{both, list("etag", "\"X\""), false},
		{both, list("etag", "\"x"), false},
		{both, list("etag", "x"), false},
		{both, list("etag", "*"), false},
		{both, list("etag", "\"x\", \"x\""), false},
		{both, list("etag", ""), false},
		{list("etag", "W/\"x\""), list("etag", "\"x\""), true},
		{list("etag", "W/\"x\""), list("etag", "W/\"x\""), true},
		{list("etag", "W/\"x\""), list("etag", "W/W/\"x\""), false},
		{list("etag", "W/W/\"x\""), list("etag", "W/W/\"x\""), true},
		{list("etag", "W/W/\"x\""), list("etag", "W/\"x\""), false},
		{list("etag", "w/\"x\""), list("etag", "w/\"x\""), true},
		{list("etag", "w/\"x\""), list("etag", "W/\"x\""), false},
		{list("etag", ""), list("etag", ""), true},
		{list("etag", ""), list("etag", "W/"), true},
		{list("etag", "W/"), list("etag", ""), true},
		{list("etag", "W"), list("etag", ""), false},
		{list("etag", "*"), list("etag", "\"x\""), false},
		{list("etag", "*"), list("etag", "W/*"), true},
		{list("etag", "\"x\", \"y\""), list("etag", "\"x\""), false},
		// None of them is kept's only one.
		{nil, list("etag", "\"x\""), false},
		{nil, list("etag", ""), false},
		{list("last-modified", when(1000)), list("etag", "\"x\"", "last-modified", when(1000)), false},
		{list("etag", "\"x\"", "etag", "\"x\""), list("etag", "\"x\""), false},
		{list("etag", "\"x\"", "etag", ""), list("etag", ""), false},
		// With a tag, when it was changed is nothing to it.
		{both, list("etag", "\"x\"", "last-modified", when(1001)), true},
		{both, list("etag", "\"y\"", "last-modified", when(1000)), false},

		{both, list("last-modified", when(1000)), true},
		{both, list("Last-MODIFIED", when(1001)), false},
		{both, list("last-modified", when(999)), false},
		{both, list("last-modified", second), false},
		{both, list("last-modified", "x"), false},
		{both, list("last-modified", ""), false},
		{both, list("last-modified", when(1000)+" "), false},
		{list("last-modified", "x"), list("last-modified", "x"), true},
		{list("last-modified", ""), list("last-modified", ""), true},
		{list("last-modified", "W/x"), list("last-modified", "x"), false},
		{nil, list("last-modified", when(1000)), false},
		{nil, list("last-modified", ""), false},
		{list("last-modified", when(1000), "last-modified", when(1000)), list("last-modified", when(1000)), false},
		{list("last-modified", when(1000), "last-modified", ""), list("last-modified", ""), false},
		// It has no only one of them, so it says nothing by them.
		{both, list("last-modified", when(5), "last-modified", when(5)), true},
		{both, list("etag", "\"y\"", "etag", "\"y\""), true},
		{both, list("etag", "\"y\"", "ETag", "\"z\"", "last-modified", when(1000)), true},
		{both, list("etag", "\"x\"", "ETag", "\"x\"", "last-modified", when(1001)), false},
		{nil, list("etag", "\"x\"", "ETag", "\"x\"", "last-modified", when(1001), "last-modified", when(1001)), true},
		{both, list("etags", "\"y\"", "if-none-match", "\"y\"", "modified", "y"), true},
	} {
		kept, resp := answer(200), answer(304)
		kept.Fields, resp.Fields = c.kept, c.says
		wantConfirms(t, kept, resp, c.want)
		kept.Status = 404
		wantConfirms(t, kept, resp, c.want)
		resp.Status = 200
		wantConfirms(t, kept, resp, false)
	}
	for _, status := range statuses() {
		wantConfirms(t, answer(200), answer(status), status == 304)
		wantConfirms(t, answer(200, both[0].Name, both[0].Value), answer(status, "etag", "\"x\""), status == 304)
		wantConfirms(t, answer(status), answer(304), true)
	}
}

func wantUnchanged(t *testing.T, req, kept api.Message, want bool) {
	t.Helper()
	if Unchanged(req, kept) != want {
		t.Errorf("Unchanged of %s, %s isn't %t", brief(req), brief(kept), want)
	}
}

// Of P11.5: by if-none-match.
func TestUnchangedByTags(t *testing.T) {
	tagged := list("ETag", "\"x\"", "Last-Modified", when(1000))
	for _, c := range []struct {
		asks, kept []api.Field
		want       bool
	}{
		{nil, tagged, false},
		{list("if-none-match", "\"x\""), tagged, true},
		{list("If-None-Match", "W/\"x\""), tagged, true},
		{list("IF-NONE-MATCH", "\"0\", W/\"x\""), tagged, true},
		{list("if-none-match", "\"y\""), tagged, false},
		{list("if-none-match", "w/\"x\""), tagged, false},
		{list("if-none-match", "W/W/\"x\""), tagged, false},
		{list("if-none-match", "\"X\""), tagged, false},
		{list("if-none-match", "x"), tagged, false},
		{list("if-none-match", "\"x\" \"x\""), tagged, false},
		{list("if-none-match", "\"y\"", "if-none-match", "\"z\", \"x\""), tagged, true},
		{list("if-none-match", "\"x\"", "If-None-Match", "\"y\""), tagged, true},
		{list("if-none-match", "\"y\"", "If-None-Match", "\"z\""), tagged, false},
		{list("if-none-match", "\"y\",\"x\""), tagged, true},
		{list("if-none-match", " ,, \"x\" ,"), tagged, true},
		{list("if-none-match", "\"y, \"x\"\""), tagged, false},
		{list("if-none-match", "\"y", "if-none-match", "\"x\""), tagged, true},
		{list("if-none-match", "\"y, \"x\", \"x\""), tagged, false},
		{list("if-none-match", ""), tagged, false},
		{list("if-none-match", ","), tagged, false},
		{list("if-none-match", "\"\""), tagged, false},
		{list("if-none-match", "W/"), tagged, false},

		{list("if-none-match", "*"), tagged, true},
		{list("if-none-match", "*"), nil, true},
		{list("if-none-match", "\"y\", *"), nil, true},
		{list("if-none-match", "\"y\"", "if-none-match", "\t*"), list("etag", "\"x\"", "etag", "\"x\""), true},
		{list("if-none-match", "**"), tagged, false},
		{list("if-none-match", "\"*\""), tagged, false},
		{list("if-none-match", "W/*"), tagged, false},
		{list("if-none-match", "*\"x\""), tagged, false},
		{list("if-none-match", "* x"), tagged, false},
		{list("if-none-match", "\"y, *"), tagged, false},
		{list("if-none-match", "x*"), nil, false},

		{list("if-none-match", "\"x\""), nil, false},
		{list("if-none-match", "\"x\""), list("etag", "\"x\"", "ETag", "\"x\""), false},
		{list("if-none-match", "W/"), nil, false},
		{list("if-none-match", "W/"), list("etag", ""), true},
		{list("if-none-match", ""), list("etag", ""), false},
		{list("if-none-match", "\"x\""), list("etag", "W/\"x\""), true},
		{list("if-none-match", "W/\"x\""), list("etag", "W/\"x\""), true},
		{list("if-none-match", "W/*"), list("etag", "*"), true},
		{list("if-none-match", "\"x\", \"y\""), list("etag", "\"x\", \"y\""), false},
		{list("if-none-match", "\"x, y\""), list("etag", "\"x, y\""), true},
		{list("if-none-match", "x"), list("etag", " x"), false},

		// When it was changed is nothing to it then.
		{list("if-none-match", "\"y\"", "if-modified-since", when(1001)), tagged, false},
		{list("if-modified-since", when(1001), "if-none-match", ""), tagged, false},
		{list("if-none-match", "\"x\"", "if-modified-since", when(999)), tagged, true},
		{list("if-none-match", "\"x\"", "if-modified-since", "x", "if-match", "\"y\"", "if-unmodified-since", when(1), "range", "bytes=0-1", "if-range", "z"), tagged, true},
		// These are no such fields.
		{list("if-match", "*", "none-match", "*", "if-none-matches", "*", "etag", "\"x\"", "if_none_match", "*"), tagged, false},
	} {
		wantUnchangedOf(t, c.asks, c.kept, c.want)
	}
}

// Of P11.5: by if-modified-since.
func TestUnchangedByMoments(t *testing.T) {
	second, third := whenElse(1000)
	changed := list("Last-Modified", when(1000), "ETag", "\"x\"", "Date", when(3000))
	for _, c := range []struct {
		asks, kept []api.Field
		want       bool
	}{
		{list("if-modified-since", when(1000)), changed, true},
		{list("If-Modified-Since", when(1001)), changed, true},
		{list("IF-MODIFIED-SINCE", when(999)), changed, false},
		{list("if-modified-since", second), changed, true},
		{list("if-modified-since", third), changed, true},
		{list("if-modified-since", when(1000)), list("LAST-MODIFIED", second), true},
		{list("if-modified-since", when(999)), list("last-modified", third), false},
		{list("if-modified-since", second), list("last-modified", third), true},
		{list("if-modified-since", when(0)), list("last-modified", when(0)), true},
		{list("if-modified-since", when(0)), list("last-modified", when(1)), false},
		{list("if-modified-since", when(253402300799)), changed, true},
		{list("if-modified-since", when(100000)), changed, true},
		// Sooner or later by the calendar, not by the texts.
		{list("if-modified-since", "Fri, 02 Jan 1970 00:00:00 GMT"), list("last-modified", "Thu, 01 Jan 1970 23:59:59 GMT"), true},
		{list("if-modified-since", "Thu, 01 Jan 1970 23:59:59 GMT"), list("last-modified", "Fri, 02 Jan 1970 00:00:00 GMT"), false},

		{nil, changed, false},
		{nil, list("last-modified", when(0)), false},
		{list("if-modified-since", ""), list("last-modified", when(0)), false},
		{list("if-modified-since", ""), changed, false},
		{list("if-modified-since", "x"), changed, false},
		{list("if-modified-since", "1001"), changed, false},
		{list("if-modified-since", "*"), changed, false},
		{list("if-modified-since", when(1001)+" "), changed, false},
		{list("if-modified-since", strings.ToUpper(when(1001))), changed, false},
		{list("if-modified-since", when(1001), "if-modified-since", when(1001)), changed, false},
		{list("if-modified-since", when(1001), "If-Modified-Since", "x"), changed, false},
		{list("if-modified-since", when(1001)), nil, false},
		{list("if-modified-since", when(1001)), list("last-modified", when(1000), "last-modified", when(1000)), false},
		{list("if-modified-since", when(1001)), list("last-modified", ""), false},
		{list("if-modified-since", when(1001)), list("last-modified", "x"), false},
		{list("if-modified-since", when(1001)), list("last-modified", when(1000)+"x"), false},
		{list("if-modified-since", "x"), list("last-modified", "x"), false},
		{list("if-modified-since", ""), list("last-modified", ""), false},
		{list("if-modified-since", when(3001)), list("date", when(3000), "expires", when(3000)), false},
		{list("if-modified", when(1001), "modified-since", when(1001), "if-unmodified-since", when(1001), "if-range", when(1001), "last-modified", when(1001)), changed, false},
		{list("if-modified-since", when(1001), "if-match", "\"y\"", "range", "bytes=0-1"), changed, true},
	} {
		wantUnchangedOf(t, c.asks, c.kept, c.want)
	}
}

// wantUnchangedOf: also of other methods and statuses.
func wantUnchangedOf(t *testing.T, asks, has []api.Field, want bool) {
	t.Helper()
	req, kept := request("GET"), answer(200)
	req.Fields, kept.Fields = asks, has
	wantUnchanged(t, req, kept, want)
	req.Method = "HEAD"
	wantUnchanged(t, req, kept, want)
	for _, method := range append(other("GET", "HEAD"), "OPTIONS", "TRACE") {
		req.Method = method
		wantUnchanged(t, req, kept, false)
	}
	req.Method = "GET"
	for _, status := range []int{0, 199, 201, 203, 204, 206, 304, 404} {
		kept.Status = status
		wantUnchanged(t, req, kept, false)
	}
}

// Of P11.5.
func TestUnchangedOfStatuses(t *testing.T) {
	for _, status := range statuses() {
		wantUnchanged(t, request("GET", "if-none-match", "*"), answer(status), status == 200)
		wantUnchanged(t, request("HEAD", "if-modified-since", when(5)), answer(status, "last-modified", when(5)), status == 200)
		req := request("GET", "if-none-match", "\"x\"")
		req.Status = status
		wantUnchanged(t, req, answer(200, "etag", "\"x\""), true)
	}
}

// only is the value of the only field of a name; there: is there one?
func only(fs []api.Field, name string) (value string, there bool) {
	n := 0
	for _, f := range fs {
		if strings.EqualFold(f.Name, name) {
			value, n = f.Value, n+1
		}
	}
	return value, n == 1
}

func strong(tag string) string {
	if len(tag) >= 2 && tag[:2] == "W/" {
		return tag[2:]
	}
	return tag
}

// Of P11.4: all short lists of some fields, by the chapter's words.
func TestChecksOfAll(t *testing.T) {
	some := list("ETag", "\"x\"", "etag", "W/\"x\"", "Etag", "\"y\"", "eTag", "", "Last-Modified", when(5), "last-modified", when(9), "last-Modified", "z", "Date", when(5))
	yes, no := 0, 0
	lists := rows(3, some...)
	for _, fs := range lists {
		kept := answer(200)
		kept.Fields = fs
		tag, hasTag := only(fs, "etag")
		changed, hasChanged := only(fs, "last-modified")
		var want []api.Field
		if hasTag {
			want = append(want, list("If-None-Match", tag)...)
		}
		if hasChanged && changed != "z" {
			want = append(want, list("If-Modified-Since", changed)...)
		}
		wantCondition(t, kept, want)
		for _, says := range lists[:len(lists)/8+9] {
			resp := answer(304)
			resp.Fields = says
			want := true
			if other, ok := only(says, "etag"); ok {
				want = hasTag && strong(tag) == strong(other)
			} else if other, ok := only(says, "last-modified"); ok {
				want = hasChanged && changed == other
			}
			wantConfirms(t, kept, resp, want)
			if want {
				yes++
			} else {
				no++
			}
		}
		if t.Failed() {
			return
		}
	}
	if yes < 5000 || no < 5000 {
		t.Errorf("%d and %d: too few to tell", yes, no)
	}
}

// Of P11.5: all short lists of some fields, by the chapter's words.
func TestUnchangedOfAll(t *testing.T) {
	asks := list("If-None-Match", "\"x\"", "if-none-match", "W/\"y\" ,\"z\"", "if-none-match", "*", "If-none-match", "", "If-Modified-Since", when(7), "if-modified-since", when(9), "if-Modified-since", "z", "date", when(9))
	has := list("ETag", "\"x\"", "etag", "W/\"x\"", "Etag", "\"y\"", "eTag", "", "Last-Modified", when(5), "last-modified", when(9), "last-Modified", "z")
	moment := func(fs []api.Field, name string) (int, bool) {
		s, ok := only(fs, name)
		at, e := date.Parse(s)
		return at, ok && e == api.OK
	}
	yes, no := 0, 0
	for _, fs := range rows(3, asks...) {
		req := request("GET")
		req.Fields = fs
		for _, known := range rows(2, has...) {
			kept := answer(200)
			kept.Fields = known
			want, named := false, false
			for _, f := range fs {
				if strings.EqualFold(f.Name, "if-none-match") {
					named = true
					for _, piece := range strings.Split(f.Value, ",") {
						piece = strings.TrimSpace(piece)
						tag, ok := only(known, "etag")
						want = want || piece == "*" || piece != "" && ok && strong(piece) == strong(tag)
					}
				}
			}
			if !named {
				since, asked := moment(fs, "if-modified-since")
				changed, told := moment(known, "last-modified")
				want = asked && told && since >= changed
			}
			wantUnchanged(t, req, kept, want)
			if want {
				yes++
			} else {
				no++
			}
		}
		if t.Failed() {
			return
		}
	}
	if yes < 5000 || no < 5000 {
		t.Errorf("%d and %d: too few to tell", yes, no)
	}
}
