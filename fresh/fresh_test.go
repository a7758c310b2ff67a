package fresh

import (
	"fmt"
	"math"
	"math/big"
	"reflect"
	"slices"
	"strings"
	"testing"

	"icehouse/api"
	"icehouse/control"
	"icehouse/date"
)

const (
	lastMoment = 253402300799
	greatest   = 1<<31 - 1
	lastClock  = 1 << 40
)

// list are fields of names and values, by turns.
func list(texts ...string) []api.Field {
	var fs []api.Field
	for i := 0; i < len(texts); i += 2 {
		fs = append(fs, api.Field{Name: texts[i], Value: texts[i+1]})
	}
	return fs
}

func answer(status int, texts ...string) api.Message {
	return api.Message{Start: api.Start{Status: status, Minor: 1}, Fields: list(texts...)}
}

// when is a moment's first form.
func when(at int) string {
	s, e := date.Print(at)
	if e != api.OK {
		panic(e)
	}
	return s
}

// whenElse are a moment's other two.
func whenElse(at int) (string, string) {
	all, e := date.Forms(at)
	if e != api.OK {
		panic(e)
	}
	return all[1], all[2]
}

func brief(x any) string {
	s := fmt.Sprintf("%+v", x)
	if len(s) > 300 {
		return s[:300] + " .."
	}
	return s
}

// Of P10.1.
func TestHeuristic(t *testing.T) {
	named := []int{200, 203, 204, 300, 301, 308, 404, 405, 410, 414, 501}
	some := []int{math.MinInt, -200, math.MaxInt, math.MaxInt - 1, 200 + 1<<32, 404 - 1<<32, 1<<63 - 1<<32 + 200}
	for status := range 1100 {
		some = append(some, status)
	}
	for _, status := range some {
		if want := slices.Contains(named, status); Heuristic(status) != want {
			t.Errorf("Heuristic of %d isn't %t", status, want)
		}
	}
}

func wantLifetime(t *testing.T, m api.Message, x api.Times, want int, said bool) {
	t.Helper()
	if n, ok := Lifetime(m, x); n != want || ok != said {
		t.Errorf("Lifetime of %s, %+v is %d, %t, not %d, %t", brief(m), x, n, ok, want, said)
	}
}

// Of P10.1: what is said, by what is said first.
func TestLifetimeSaid(t *testing.T) {
	x := api.Times{Asked: 1000, Got: 1002}
	second, third := whenElse(1010)
	for _, c := range []struct {
		want int
		fs   []api.Field
	}{
		{10, list("Cache-Control", "max-age=10")},
		{10, list("CACHE-CONTROL", "Max-Age=\"10\"")},
		{7, list("cache-control", "max-age=5, s-maxage=7")},
		{7, list("cache-control", "s-maxage=7", "cache-control", "max-age=5")},
		{5, list("cache-control", "max-age=5", "expires", when(9999))},
		{5, list("expires", when(9999), "x", "", "cache-control", "max-age=5")},
		{7, list("expires", when(9999), "cache-control", "s-maxage=7")},
		{0, list("cache-control", "max-age=0, s-maxage", "expires", when(9999))},
		{0, list("cache-control", "max-age=0", "expires", when(9999))},
		{0, list("cache-control", "max-age", "expires", when(9999))},
		{0, list("cache-control", "max-age=x", "expires", when(9999))},
		{0, list("cache-control", "max-age=-5", "expires", when(9999))},
		{0, list("cache-control", "s-maxage=-5, max-age=9")},
		{5, list("cache-control", "max-age=5, max-age=6", "cache-control", "max-age=7")},
		{greatest, list("cache-control", "max-age=2147483647")},
		{greatest, list("cache-control", "max-age=2147483648")},
		{greatest - 1, list("cache-control", "max-age=2147483646")},
		{greatest, list("cache-control", "s-maxage=99999999999999999999999")},
		// It is not asked there whether it may be told.
		{5, list("cache-control", "no-store, no-cache, private, max-age=5")},
		// Directives that aren't a response's, or aren't right, say nothing of it.
		{12, list("cache-control", "max-stale=5, min-fresh=6, max-age=, maxage=3", "expires", when(1014))},
		{12, list("cache_control", "max-age=5", "cachecontrol", "max-age=5", "expires", when(1014))},

		{8, list("expires", when(1010))},
		{8, list("Expires", second)},
		{8, list("EXPIRES", third)},
		{10, list("expires", when(1010), "date", when(1000))},
		{10, list("Date", when(1000), "Expires", when(1010))},
		{1, list("expires", when(1010), "date", when(1009))},
		{0, list("expires", when(1010), "date", when(1010))},
		{0, list("expires", when(1010), "date", when(1011))},
		{0, list("expires", when(1002))},
		{0, list("expires", when(1001))},
		{1, list("expires", when(1003))},
		{0, list("expires", when(0))},
		{0, list("expires", when(0), "date", when(lastMoment))},
		{lastMoment % 1000, list("expires", when(lastMoment), "date", when(lastMoment-lastMoment%1000))},
		{greatest, list("expires", when(lastMoment))},
		{greatest, list("expires", when(lastMoment), "date", when(0))},
		{greatest, list("expires", when(1000+greatest), "date", when(1000))},
		{greatest, list("expires", when(1001+greatest), "date", when(1000))},
		{greatest - 1, list("expires", when(999+greatest), "date", when(1000))},
		// They say no moment, or not one.
		{0, list("expires", "0")},
		{0, list("expires", "")},
		{0, list("expires", "-1")},
		{0, list("expires", "1010")},
		{0, list("expires", when(1010)+" ")},
		{0, list("expires", " "+when(1010))},
		{0, list("expires", strings.ToLower(when(1010)))},
		{0, list("expires", strings.Replace(when(1010), "Thu", "Fri", 1))},
		{0, list("expires", strings.Replace(when(1010), "GMT", "UTC", 1))},
		{0, list("expires", when(1010)+", "+when(1010))},
		{0, list("expires", when(1010), "expires", when(1010))},
		{0, list("expires", when(1010), "Expires", "")},
		{0, list("expires", "0", "EXPIRES", when(1010))},
		// The date's moment is none, so it is Got.
		{8, list("expires", when(1010), "date", "")},
		{8, list("expires", when(1010), "date", "1000")},
		{8, list("expires", when(1010), "date", when(900)+"x")},
		{8, list("expires", when(1010), "date", when(900), "date", when(900))},
		{8, list("expires", when(1010), "Date", when(900), "DATE", "x")},
		{8, list("expires", when(1010), "dates", when(900))},
		// What is said holds whatever else there is.
		{5, list("cache-control", "max-age=5", "last-modified", when(2), "date", when(1000), "age", "9")},
		{10, list("expires", when(1010), "last-modified", when(2), "date", when(1000), "age", "9")},
		{0, list("expires", "0", "last-modified", when(2))},
	} {
		for _, status := range []int{200, 302, 404, 500, 0} {
			m := answer(status)
			m.Fields = c.fs
			wantLifetime(t, m, x, c.want, true)
		}
	}
}

// Of P10.1: what isn't said.
func TestLifetimeNotSaid(t *testing.T) {
	x := api.Times{Asked: 1000, Got: 1002}
	second, third := whenElse(702)
	for _, c := range []struct {
		want int
		fs   []api.Field
	}{
		{0, nil},
		{0, list("cache-control", "no-cache, max-stale=5, min-fresh=7")},
		{0, list("date", when(1000), "age", "5")},
		{30, list("last-modified", when(702))},
		{30, list("Last-Modified", second)},
		{30, list("LAST-MODIFIED", third)},
		{30, list("cache-control", "public, must-revalidate", "last-modified", when(702))},
		{10, list("last-modified", when(900), "date", when(1000))},
		{10, list("date", when(1000), "last-modified", when(891))},
		{10, list("last-modified", when(900), "date", when(1009))},
		{11, list("last-modified", when(900), "date", when(1010))},
		{1, list("last-modified", when(990), "date", when(1000))},
		{0, list("last-modified", when(991), "date", when(1000))},
		{0, list("last-modified", when(1000), "date", when(1000))},
		{0, list("last-modified", when(1001), "date", when(1000))},
		{0, list("last-modified", when(1100), "date", when(1000))},
		{0, list("last-modified", when(2002))},
		{100, list("last-modified", when(0))},
		// A date behind Got counts.
		{900, list("last-modified", when(1000), "date", when(10000))},
		// They say no moment, or not one.
		{0, list("last-modified", "")},
		{0, list("last-modified", "702")},
		{0, list("last-modified", when(702)+" ")},
		{0, list("last-modified", when(702), "last-modified", when(702))},
		{0, list("last-modified", when(702), "Last-Modified", "x")},
		{0, list("lastmodified", when(702), "modified", when(702))},
		{30, list("last-modified", when(702), "date", "x")},
		{30, list("last-modified", when(702), "date", when(999), "date", when(999))},
		// What is above MaxDelta.
		{greatest, list("last-modified", when(0), "date", when(lastMoment))},
		{greatest, list("last-modified", when(5), "date", when(5+10*greatest))},
		{greatest - 1, list("last-modified", when(5), "date", when(4+10*greatest))},
	} {
		for _, status := range []int{200, 203, 204, 300, 301, 308, 404, 405, 410, 414, 501} {
			m := answer(status)
			m.Fields = c.fs
			wantLifetime(t, m, x, c.want, false)
		}
		for _, status := range []int{-200, 0, 100, 201, 206, 302, 303, 304, 307, 400, 403, 451, 500, 502, 503, 999} {
			m := answer(status)
			m.Fields = c.fs
			wantLifetime(t, m, x, 0, false)
		}
	}
}

// Of P10.1: times out of their bounds.
func TestLifetimeOfTimes(t *testing.T) {
	for _, c := range []struct {
		x   api.Times
		got int
	}{
		{api.Times{}, 0},
		{api.Times{Asked: 5, Got: 9}, 9},
		{api.Times{Asked: 9, Got: 5}, 9},
		{api.Times{Asked: 9, Got: 9}, 9},
		{api.Times{Asked: 9, Got: -5}, 9},
		{api.Times{Asked: -9, Got: 5}, 5},
		{api.Times{Asked: -9, Got: -5}, 0},
		{api.Times{Asked: math.MinInt, Got: math.MinInt}, 0},
		{api.Times{Asked: 9, Got: math.MinInt}, 9},
		{api.Times{Asked: math.MinInt, Got: 9}, 9},
		{api.Times{Asked: 9, Got: lastClock - 1}, lastClock - 1},
		{api.Times{Asked: 9, Got: lastClock}, lastClock},
		{api.Times{Asked: 9, Got: lastClock + 1}, lastClock},
		{api.Times{Asked: lastClock + 1, Got: 9}, lastClock},
		{api.Times{Asked: lastClock - 1, Got: 9}, lastClock - 1},
		{api.Times{Asked: math.MaxInt, Got: math.MaxInt}, lastClock},
		{api.Times{Asked: math.MinInt, Got: math.MaxInt}, lastClock},
		{api.Times{Asked: math.MaxInt, Got: math.MinInt}, lastClock},
	} {
		// From the moment 0, and from one that is as far from Got as can be told, on.
		for _, from := range []int{0, max(c.got-25, 0), max(c.got-2000, 0)} {
			if from > lastMoment {
				continue
			}
			wantLifetime(t, answer(200, "last-modified", when(from)), c.x, min((c.got-from)/10, greatest), false)
		}
		if to := c.got + 1000; to <= lastMoment {
			wantLifetime(t, answer(200, "expires", when(to)), c.x, 1000, true)
		} else {
			wantLifetime(t, answer(200, "expires", when(lastMoment)), c.x, 0, true)
		}
		wantLifetime(t, answer(200, "expires", when(1000), "date", when(990)), c.x, 10, true)
		wantLifetime(t, answer(500, "cache-control", "max-age=5"), c.x, 5, true)
	}
}

func wantAge(t *testing.T, m api.Message, x api.Times, now, want int) {
	t.Helper()
	if n := Age(m, x, now); n != want {
		t.Errorf("Age of %s, %+v at %d is %d, not %d", brief(m), x, now, n, want)
	}
}

// Of P10.2.
func TestAge(t *testing.T) {
	x := api.Times{Asked: 1000, Got: 1002}
	second, third := whenElse(990)
	for _, c := range []struct {
		want, now int
		fs        []api.Field
	}{
		{2, 1002, nil},
		{3, 1003, nil},
		{10, 1010, nil},
		{2, 1001, nil},
		{2, 999, nil},
		{2, 0, nil},
		{2, -1, nil},
		{2, math.MinInt, nil},
		{greatest, 1000 + greatest, nil},
		{greatest, 1001 + greatest, nil},
		{greatest - 1, 999 + greatest, nil},
		{greatest, lastClock, nil},
		{greatest, lastClock + 1, nil},
		{greatest, math.MaxInt, nil},

		{12, 1002, list("date", when(990))},
		{20, 1010, list("Date", when(990))},
		{20, 1010, list("date", second)},
		{20, 1010, list("DATE", third)},
		{12, 980, list("date", when(990))},
		{10, 1010, list("date", when(1000))},
		{11, 1010, list("date", when(999))},
		{10, 1010, list("date", when(1001))},
		{10, 1010, list("date", when(1002))},
		{10, 1010, list("date", when(2000))},
		{10, 1010, list("date", when(lastMoment))},
		{1010, 1010, list("date", when(0))},
		{10, 1010, list("date", when(990), "date", when(990))},
		{10, 1010, list("date", "990")},
		{10, 1010, list("date", when(990)+" ")},
		{10, 1010, list("date", "")},
		{10, 1010, list("date", when(990), "Date", "x")},

		{7, 1002, list("age", "5")},
		{15, 1010, list("Age", "5")},
		{15, 1010, list("AGE", "0005")},
		{10, 1010, list("age", "0")},
		{15, 1010, list("age", "5", "age", "9")},
		{19, 1010, list("Age", "9", "age", "5")},
		{10, 1010, list("age", "x", "age", "9")},
		{10, 1010, list("age", "", "age", "9")},
		{10, 1010, list("age", " 5")},
		{10, 1010, list("age", "5 ")},
		{10, 1010, list("age", "-5")},
		{10, 1010, list("age", "+5")},
		{10, 1010, list("age", "5.0")},
		{10, 1010, list("age", "5, 6")},
		{10, 1010, list("age", "\"5\"")},
		{10, 1010, list("age", "0x5")},
		{10, 1010, list("ages", "5", "ag", "6")},
		{greatest, 1010, list("age", "2147483647")},
		{greatest, 1010, list("age", "2147483648")},
		{greatest, 1010, list("age", "99999999999")},
		{greatest, 1010, list("age", strings.Repeat("9", 1000))},
		{greatest, 1002, list("age", "2147483645")},
		{greatest - 1, 1002, list("age", "2147483644")},
		{greatest - 1, 1009, list("age", "2147483637")},
		{greatest, 1009, list("age", "2147483638")},
		{greatest, 1009, list("age", "2147483639")},
		{10 + 1<<30, 1010, list("age", "1073741824")},

		// The greater one.
		{20, 1010, list("date", when(990), "age", "5")},
		{20, 1010, list("date", when(990), "age", "10")},
		{21, 1010, list("date", when(990), "age", "11")},
		{20, 1010, list("age", "9", "date", when(990))},
		{greatest, 1010, list("date", when(990), "age", "99999999999")},
		{20, 1010, list("date", when(990), "age", "x")},
		// Nothing else is asked.
		{10, 1010, list("cache-control", "max-age=3, no-cache", "expires", when(900), "last-modified", when(800))},
	} {
		for _, status := range []int{200, 304, 0, -1} {
			m := answer(status)
			m.Fields = c.fs
			wantAge(t, m, x, c.now, c.want)
		}
	}
}

// Of P10.2: times out of their bounds.
func TestAgeOfTimes(t *testing.T) {
	for _, c := range []struct {
		x         api.Times
		now, want int
	}{
		{api.Times{}, 0, 0},
		{api.Times{}, 7, 7},
		{api.Times{Asked: 5, Got: 9}, 9, 4},
		{api.Times{Asked: 5, Got: 9}, 12, 7},
		{api.Times{Asked: 5, Got: 5}, 12, 7},
		{api.Times{Asked: 9, Got: 5}, 12, 3},
		{api.Times{Asked: 9, Got: 5}, 9, 0},
		{api.Times{Asked: 9, Got: 5}, 7, 0},
		{api.Times{Asked: 9, Got: -5}, 12, 3},
		{api.Times{Asked: -9, Got: 5}, 12, 12},
		{api.Times{Asked: -9, Got: -5}, 12, 12},
		{api.Times{Asked: -9, Got: -5}, -7, 0},
		{api.Times{Asked: math.MinInt, Got: math.MinInt}, 12, 12},
		{api.Times{Asked: math.MinInt, Got: 5}, math.MinInt, 5},
		{api.Times{Asked: math.MinInt, Got: math.MaxInt}, math.MinInt, greatest},
		{api.Times{Asked: math.MaxInt, Got: math.MinInt}, math.MinInt, 0},
		{api.Times{Asked: math.MaxInt, Got: math.MaxInt}, math.MaxInt, 0},
		{api.Times{Asked: lastClock - 5, Got: lastClock - 3}, lastClock, 5},
		{api.Times{Asked: lastClock - 5, Got: lastClock - 3}, lastClock + 1, 5},
		{api.Times{Asked: lastClock - 5, Got: lastClock + 9}, lastClock + 1, 5},
		{api.Times{Asked: lastClock - 5, Got: lastClock + 9}, 0, 5},
		{api.Times{Asked: lastClock - 5, Got: lastClock}, 0, 5},
		{api.Times{Asked: lastClock - 5, Got: lastClock - 1}, 0, 4},
		{api.Times{Asked: lastClock + 5, Got: lastClock + 9}, lastClock + 20, 0},
		{api.Times{Asked: lastClock, Got: 0}, 0, 0},
		{api.Times{Asked: 0, Got: lastClock}, 0, greatest},
		{api.Times{Asked: 0, Got: greatest - 1}, 0, greatest - 1},
		{api.Times{Asked: 0, Got: greatest - 1}, greatest, greatest},
		{api.Times{Asked: 0, Got: greatest}, greatest, greatest},
		{api.Times{Asked: 0, Got: greatest + 1}, 0, greatest},
	} {
		wantAge(t, answer(200), c.x, c.now, c.want)
		wantAge(t, answer(200, "age", "10"), c.x, c.now, min(c.want+10, greatest))
	}
	wantAge(t, answer(200, "date", when(lastMoment)), api.Times{Asked: lastMoment + 3, Got: lastMoment + 5}, lastMoment+6, 6)
	wantAge(t, answer(200, "date", when(0)), api.Times{Asked: 50, Got: 50}, 50, 50)
}

func wantFresh(t *testing.T, m api.Message, x api.Times, now int, want bool) {
	t.Helper()
	if Fresh(m, x, now) != want {
		t.Errorf("Fresh of %s, %+v at %d isn't %t", brief(m), x, now, want)
	}
}

// Of P10.2.
func TestFresh(t *testing.T) {
	x := api.Times{Asked: 100, Got: 102}
	for _, c := range []struct {
		m     api.Message
		until int // the last moment at which it is fresh; 0: it never is
	}{
		{answer(200, "Cache-Control", "max-age=10"), 109},
		{answer(302, "Cache-Control", "max-age=10"), 109},
		{answer(200, "Cache-Control", "max-age=10", "age", "3"), 106},
		{answer(200, "Cache-Control", "max-age=10", "age", "6"), 103},
		{answer(200, "Cache-Control", "max-age=10", "age", "7"), 102},
		{answer(200, "Cache-Control", "max-age=10", "age", "8"), 0},
		{answer(200, "Cache-Control", "max-age=10", "date", when(95)), 104},
		{answer(200, "Cache-Control", "s-maxage=20, max-age=10"), 119},
		{answer(200, "Cache-Control", "max-age=10, no-cache, no-store"), 109},
		{answer(200, "Cache-Control", "max-age=2"), 0},
		{answer(200, "Cache-Control", "max-age=3"), 102},
		{answer(200, "Cache-Control", "max-age=0"), 0},
		{answer(200), 0},
		{answer(200, "expires", when(112)), 109},
		{answer(200, "expires", when(112), "date", when(102)), 109},
		{answer(200, "expires", when(112), "date", when(99)), 111},
		{answer(200, "expires", when(112), "date", when(112)), 0},
		{answer(200, "last-modified", when(2)), 109},
		{answer(404, "last-modified", when(2)), 109},
		{answer(302, "last-modified", when(2)), 0},
		{answer(200, "Cache-Control", "max-age=4000000000"), 99 + greatest},
		{answer(200, "Cache-Control", "max-age=4000000000", "age", "4000000000"), 0},
	} {
		for _, now := range []int{math.MinInt, -1, 0, 101, 102, 103, 106, 109, 110, 111, 112, 119, 120, 98 + greatest, 99 + greatest, 100 + greatest, lastClock, math.MaxInt} {
			wantFresh(t, c.m, x, now, c.until > 0 && now <= c.until)
		}
		if c.until > 0 {
			wantFresh(t, c.m, x, c.until, true)
		}
		wantFresh(t, c.m, x, c.until+1, false)
	}
}

func wantServe(t *testing.T, m api.Message, x api.Times, now int, ask api.Control, want bool) {
	t.Helper()
	if Serve(m, x, now, ask) != want {
		t.Errorf("Serve of %s, %+v at %d to %+v isn't %t", brief(m), x, now, ask, want)
	}
}

// Of P10.3: the ages are now less 1000, the lifetime is 10.
func TestServe(t *testing.T) {
	x := api.Times{Asked: 1000, Got: 1002}
	for _, c := range []struct {
		says string
		now  int
		ask  string
		want bool
	}{
		{"", 1005, "", true},
		{"", 1009, "", true},
		{"", 1010, "", false},
		{"", 1012, "", false},
		{"", 1005, "no-store, only-if-cached, public, private, must-revalidate, proxy-revalidate, s-maxage=0", true},
		{"", 1012, "no-store, only-if-cached, public, private, s-maxage=99", false},
		{"private, public, no-store", 1005, "", true},

		{"", 1005, "no-cache", false},
		{"", 1005, "no-cache, max-stale, max-age=99", false},
		{"", 1012, "no-cache, max-stale", false},
		{"no-cache", 1005, "", false},
		{"no-cache=\"x\"", 1005, "", false},
		{"no-cache", 1005, "max-stale", false},
		{"no-cache", 1012, "max-stale", false},

		{"", 1005, "max-age=4", false},
		{"", 1005, "max-age=5", true},
		{"", 1005, "max-age=6", true},
		{"", 1005, "max-age=0", false},
		{"", 1005, "max-age", false},
		{"", 1005, "max-age=99999999999", true},
		{"", 1012, "max-age=99", false},
		{"", 1012, "max-age=11, max-stale", false},
		{"", 1012, "max-age=12, max-stale", true},
		{"", 1005, "max-age=4, max-stale", false},

		{"", 1005, "min-fresh=4", true},
		{"", 1005, "min-fresh=5", true},
		{"", 1005, "min-fresh=6", false},
		{"", 1005, "min-fresh=0", true},
		{"", 1005, "min-fresh=99999999999", false},
		{"", 1005, "min-fresh=6, max-stale", false},
		{"", 1009, "min-fresh=1", true},
		{"", 1009, "min-fresh=2", false},
		{"", 1010, "min-fresh=0", false},
		{"", 1010, "min-fresh=0, max-stale", true},
		{"", 1010, "min-fresh=1, max-stale", false},
		{"", 1011, "min-fresh=0, max-stale", false},
		{"", 1012, "min-fresh=0, max-stale=2", false},
		{"", 1005, "min-fresh=5, max-age=5", true},
		{"", 1005, "min-fresh=5, max-age=4", false},
		{"", 1005, "min-fresh=6, max-age=5", false},

		{"", 1012, "max-stale", true},
		{"", 1012, "max-stale=1", false},
		{"", 1012, "max-stale=2", true},
		{"", 1012, "max-stale=3", true},
		{"", 1012, "max-stale=x", false},
		{"", 1010, "max-stale=x", true},
		{"", 1010, "max-stale=0", true},
		{"", 1011, "max-stale=0", false},
		{"", 1005, "max-stale=0", true},
		{"", 1000 + greatest, "max-stale", true},
		{"", 1000 + greatest, "max-stale=2147483637", true},
		{"", 1000 + greatest, "max-stale=2147483636", false},
		{"", lastClock, "max-stale", true},
		{"", 1012, "max-stale=2, max-age=12", true},
		{"public, private, no-store, only-if-cached, max-stale=0, min-fresh=99", 1012, "max-stale", true},

		{"must-revalidate", 1012, "max-stale", false},
		{"must-revalidate", 1010, "max-stale", false},
		{"must-revalidate", 1009, "max-stale", true},
		{"must-revalidate", 1009, "", true},
		{"proxy-revalidate", 1012, "max-stale", false},
		{"proxy-revalidate", 1009, "", true},
		{"s-maxage=10", 1012, "max-stale", false},
		{"s-maxage=10", 1009, "", true},
		{"s-maxage=0", 1012, "max-stale", false},
		{"s-maxage=0", 1002, "max-stale", false},
		{"s-maxage", 1002, "max-stale", false},
		// What a request says of these is nothing to it.
		{"", 1012, "max-stale, must-revalidate, proxy-revalidate, s-maxage=0", true},
	} {
		m := answer(302, "Cache-Control", c.says, "x", "no-cache", "cache-Control", "max-age=10")
		wantServe(t, m, x, c.now, control.Parse(c.ask), c.want)
	}
	// Without a lifetime that is said, and with one of which nothing is left.
	wantServe(t, answer(200, "last-modified", when(902)), x, 1009, control.None(), true)
	wantServe(t, answer(200, "last-modified", when(902)), x, 1010, control.None(), false)
	wantServe(t, answer(200, "last-modified", when(902)), x, 1010, control.Parse("max-stale"), true)
	wantServe(t, answer(500), x, 1002, control.Parse("max-stale=2"), true)
	wantServe(t, answer(500), x, 1002, control.Parse("max-stale=1"), false)
	wantServe(t, answer(200, "expires", "0"), x, 1005, control.Parse("max-stale=5"), true)
	wantServe(t, answer(200, "pragma", "no-cache", "cache-control", "max-age=10"), x, 1005, control.None(), true)
}

// Of P10.3: what a request says by numbers that no text says.
func TestServeOfNumbers(t *testing.T) {
	x := api.Times{Asked: 1000, Got: 1002}
	m := answer(200, "cache-control", "max-age=10")
	for _, c := range []struct {
		ask         api.Control
		fresh, gone bool
	}{
		{api.Control{MaxAge: -1, SMaxAge: -1, MaxStale: -1, MinFresh: -1}, true, false},
		{api.Control{MaxAge: -9, SMaxAge: -9, MaxStale: -9, MinFresh: -9}, true, false},
		{api.Control{MaxAge: math.MinInt, SMaxAge: math.MinInt, MaxStale: math.MinInt, MinFresh: math.MinInt}, true, false},
		// Its numbers are 0, and there.
		{api.Control{}, false, false},
		{api.Control{MaxAge: math.MaxInt, SMaxAge: 0, MaxStale: -1, MinFresh: -1}, true, false},
		{api.Control{MaxAge: math.MaxInt, SMaxAge: 0, MaxStale: math.MaxInt, MinFresh: -1}, true, true},
		{api.Control{MaxAge: -1, SMaxAge: 0, MaxStale: math.MaxInt, MinFresh: -1}, true, true},
		{api.Control{MaxAge: -1, SMaxAge: 0, MaxStale: math.MaxInt, MinFresh: math.MaxInt}, false, false},
		{api.Control{MaxAge: -1, SMaxAge: 0, MaxStale: -1, MinFresh: 0}, true, false},
		{api.Control{MaxAge: -1, SMaxAge: 0, MaxStale: math.MaxInt, MinFresh: 0}, true, false},
	} {
		wantServe(t, m, x, 1005, c.ask, c.fresh)
		wantServe(t, m, x, 1012, c.ask, c.gone)
		wantServe(t, m, x, math.MaxInt, c.ask, c.gone && c.ask.MaxAge != 0)
		c.ask.NoCache = true
		wantServe(t, m, x, 1005, c.ask, false)
		wantServe(t, m, x, 1012, c.ask, false)
	}
}

// meant is a response by the chapter's words, in numbers without ends: its times; its date; the age with which it came; its lifetime.
type meant struct {
	asked, got *big.Int
	date, told *big.Int
	life       *big.Int
	said       bool
	says       api.Control
}

func whole(n int) *big.Int { return big.NewInt(int64(n)) }

func less(a, b *big.Int) *big.Int { return new(big.Int).Sub(a, b) }

func lower(a, b *big.Int) *big.Int {
	if a.Cmp(b) < 0 {
		return a
	}
	return b
}

func greater(a, b *big.Int) *big.Int {
	if a.Cmp(b) > 0 {
		return a
	}
	return b
}

func bounded(n *big.Int, most int) *big.Int { return lower(greater(n, whole(0)), whole(most)) }

func meantOf(m api.Message, x api.Times) meant {
	r := meant{asked: bounded(whole(x.Asked), lastClock), got: bounded(whole(x.Got), lastClock), told: whole(0)}
	if r.got.Cmp(r.asked) < 0 {
		r.got = r.asked
	}
	r.date = momentOf(m, "date")
	if r.date == nil {
		r.date = r.got
	}
	if all := valuesOf(m, "age"); len(all) > 0 && all[0] != "" && strings.Trim(all[0], "0123456789") == "" {
		n, _ := new(big.Int).SetString(all[0], 10)
		r.told = lower(n, whole(greatest))
	}
	r.says = control.Parse(valuesOf(m, "cache-control")...)
	r.life, r.said = r.lifetime(m)
	return r
}

func valuesOf(m api.Message, name string) []string {
	var all []string
	for _, f := range m.Fields {
		if strings.EqualFold(f.Name, name) {
			all = append(all, f.Value)
		}
	}
	return all
}

func momentOf(m api.Message, name string) *big.Int {
	all := valuesOf(m, name)
	if len(all) != 1 {
		return nil
	}
	at, e := date.Parse(all[0])
	if e != api.OK {
		return nil
	}
	return whole(at)
}

func (r meant) lifetime(m api.Message) (*big.Int, bool) {
	if r.says.SMaxAge >= 0 {
		return whole(r.says.SMaxAge), true
	}
	if r.says.MaxAge >= 0 {
		return whole(r.says.MaxAge), true
	}
	if len(valuesOf(m, "expires")) > 0 {
		if at := momentOf(m, "expires"); at != nil {
			return bounded(less(at, r.date), greatest), true
		}
		return whole(0), true
	}
	if at := momentOf(m, "last-modified"); Heuristic(m.Status) && at != nil && at.Cmp(r.date) <= 0 {
		return bounded(new(big.Int).Quo(less(r.date, at), whole(10)), greatest), false
	}
	return whole(0), false
}

func (r meant) age(now int) *big.Int {
	at := bounded(whole(now), lastClock)
	if at.Cmp(r.got) < 0 {
		at = r.got
	}
	age := new(big.Int).Add(r.told, less(r.got, r.asked))
	age = greater(bounded(less(r.got, r.date), greatest), age)
	return bounded(age.Add(age, less(at, r.got)), greatest)
}

func (r meant) serve(age *big.Int, ask api.Control) bool {
	if ask.NoCache || r.says.NoCache {
		return false
	}
	if ask.MaxAge >= 0 && whole(ask.MaxAge).Cmp(age) < 0 {
		return false
	}
	if ask.MinFresh >= 0 && less(r.life, age).Cmp(whole(ask.MinFresh)) < 0 {
		return false
	}
	if r.life.Cmp(age) > 0 {
		return true
	}
	if ask.MaxStale < 0 || less(age, r.life).Cmp(whole(ask.MaxStale)) > 0 {
		return false
	}
	return !r.says.Must && !r.says.Proxy && r.says.SMaxAge < 0
}

// rows are all rows of at most so many of some things, the shortest first.
func rows[T any](most int, some ...T) [][]T {
	all := [][]T{nil}
	for from := 0; most > 0; most-- {
		to := len(all)
		for _, row := range all[from:to] {
			for _, x := range some {
				all = append(all, append(slices.Clone(row), x))
			}
		}
		from = to
	}
	return all
}

// asks are what requests say.
func asks() []api.Control {
	var all []api.Control
	for _, s := range []string{"", "no-cache", "max-age=30", "min-fresh=5", "min-fresh=0, max-stale", "max-stale=20", "max-stale", "max-age=60, max-stale=40"} {
		all = append(all, control.Parse(s))
	}
	return append(all, api.Control{}, api.Control{MaxAge: math.MinInt, SMaxAge: 5, MaxStale: math.MaxInt, MinFresh: -7})
}

// Of P10.1 to P10.4: all short lists of some fields, at some times, by the chapter's words.
func TestOfAll(t *testing.T) {
	some := list("Cache-Control", "max-age=40", "cache-control", "s-maxage=50, no-store", "cache-control", "no-cache, must-revalidate", "Cache-Control", "proxy-revalidate",
		"Expires", when(1040), "expires", "0", "Date", when(990), "date", when(1100), "DATE", "x", "Last-Modified", when(500), "last-modified", when(1020), "Age", "25", "age", "x", "AGE", "99999999999")
	times := []api.Times{{Asked: 1000, Got: 1007}, {Asked: 1010, Got: 900}, {Asked: -5, Got: math.MaxInt}}
	asked := asks()
	yes, no := make([]int, len(asked)), make([]int, len(asked))
	for _, fs := range rows(3, some...) {
		for i, x := range times {
			m := api.Message{Start: api.Start{Status: 200}, Fields: fs}
			if i == 0 {
				r := meantOf(m, x)
				m.Status = 302
				if !r.said {
					wantLifetime(t, m, x, 0, false)
				} else {
					wantLifetime(t, m, x, int(r.life.Int64()), true)
				}
				m.Status = 200
			}
			wantAll(t, m, x, asked, yes, no)
		}
		if t.Failed() {
			return
		}
	}
	for i, ask := range asked {
		// Two of them ask what is never so here.
		if !ask.NoCache && ask != (api.Control{}) && yes[i] < 100 || no[i] < 100 {
			t.Errorf("to %+v: %d and %d: too few to tell", ask, yes[i], no[i])
		}
	}
}

// wantAll: of one response, at moments one behind the other.
func wantAll(t *testing.T, m api.Message, x api.Times, asked []api.Control, yes, no []int) {
	t.Helper()
	r := meantOf(m, x)
	wantLifetime(t, m, x, int(r.life.Int64()), r.said)
	before, wasFresh := -1, true
	for _, now := range []int{math.MinInt, 1003, 1020, 1035, 1047, 1075, math.MaxInt} {
		age := r.age(now)
		wantAge(t, m, x, now, int(age.Int64()))
		isFresh := r.life.Cmp(age) > 0
		wantFresh(t, m, x, now, isFresh)
		if n := Age(m, x, now); n < before || isFresh && !wasFresh {
			t.Errorf("%s, %+v is younger at %d, or becomes fresh", brief(m), x, now)
		}
		before, wasFresh = int(age.Int64()), isFresh
		for i, ask := range asked {
			want := r.serve(age, ask)
			wantServe(t, m, x, now, ask, want)
			if want {
				yes[i]++
			} else {
				no[i]++
			}
		}
	}
}

// Of P10.4: from moment to moment.
func TestLater(t *testing.T) {
	for _, fs := range [][]api.Field{nil, list("cache-control", "max-age=40"), list("expires", when(150)), list("expires", when(150), "date", when(80)), list("last-modified", when(0)), list("age", "20", "cache-control", "s-maxage=77"), list("date", when(300), "cache-control", "max-age=99")} {
		m := api.Message{Start: api.Start{Status: 200}, Fields: fs}
		for _, x := range []api.Times{{Asked: 100, Got: 103}, {Asked: 103, Got: 100}, {Asked: 0, Got: 120}} {
			got := max(x.Asked, x.Got)
			for now := -10; now < 300; now++ {
				step := 0
				if now >= got {
					step = 1
				}
				if a, b := Age(m, x, now), Age(m, x, now+1); b != a+step {
					t.Errorf("%s, %+v: age %d at %d, then %d", brief(m), x, a, now, b)
				}
				if !Fresh(m, x, now) && Fresh(m, x, now+1) {
					t.Errorf("%s, %+v becomes fresh at %d", brief(m), x, now+1)
				}
				for _, ask := range asks() {
					if !Serve(m, x, now, ask) && Serve(m, x, now+1, ask) {
						t.Errorf("%s, %+v may be told again at %d to %+v", brief(m), x, now+1, ask)
					}
				}
			}
		}
	}
}

// Of P10.4: the same again, whatever was asked between; and nothing of what is handed in is changed.
func TestNothingKept(t *testing.T) {
	given := func() api.Message {
		m := answer(200, "Cache-Control", "max-age=40, Must-Revalidate", "Date", when(95), "AGE", "3", "Expires", when(500), "Last-Modified", when(5), "spare", "room", "cache-control", "s-maxage=5, no-cache")
		m.Method, m.Target, m.Reason, m.Body = "GET", "/", "Fine", []byte("bodyspare")
		m.Body = m.Body[:4]
		m.Fields = m.Fields[:5]
		return m
	}
	m, x, ask := given(), api.Times{Asked: 100, Got: 104}, control.Parse("max-age=20, max-stale, min-fresh=3")
	for range 3 {
		wantLifetime(t, m, x, 40, true)
		wantAge(t, m, x, 110, 15)
		wantFresh(t, m, x, 110, true)
		wantServe(t, m, x, 110, ask, true)
		wantServe(t, m, x, 116, ask, false)
		wantLifetime(t, answer(404, "last-modified", when(4)), x, 10, false)
		wantServe(t, answer(404, "cache-control", "max-age=99, no-cache"), x, 110, ask, false)
	}
	if was := given(); !reflect.DeepEqual(m, was) || !reflect.DeepEqual(m.Fields[:7], was.Fields[:7]) || string(m.Body[:9]) != "bodyspare" {
		t.Errorf("what was handed in is %s", brief(m))
	}
	// What is changed by who handed it in counts from then on.
	m.Fields[0].Value = "max-age=7"
	wantLifetime(t, m, x, 7, true)
	m.Fields = nil
	wantLifetime(t, m, x, 0, false)
	wantAge(t, m, x, 110, 10)
}

// Messages as great as one likes.
func TestGreat(t *testing.T) {
	x := api.Times{Asked: 1000, Got: 1002}
	m := answer(200)
	m.Fields = slices.Repeat(list("Cache-Control", "x, y=\"z,", "Age", "7", "Expires", when(1010), "Date", when(3)), 50000)
	wantLifetime(t, m, x, 0, true)
	wantAge(t, m, x, 1003, 10)
	wantServe(t, m, x, 1003, control.Parse("max-stale=10"), true)
	m.Fields = list("Cache-Control", strings.Repeat("a,", 500000)+"max-age=9", "Age", strings.Repeat("0", 500000)+"7", "Date", strings.Repeat("x", 1<<20))
	wantLifetime(t, m, x, 9, true)
	wantAge(t, m, x, 1003, 10)
	wantFresh(t, m, x, 1003, false)
}
