package date

import (
	"fmt"
	"math"
	"net/http"
	"slices"
	"strings"
	"testing"
	"time"
	"unsafe"

	"icehouse/api"
)

const (
	secondLayout = "Monday, 02-Jan-06 15:04:05 GMT"
	oneDay       = 86400
)

// told is what a moment's forms should be, by the library's calendar.
func told(at int) [3]string {
	t := time.Unix(int64(at), 0).UTC()
	return [3]string{t.Format(http.TimeFormat), t.Format(secondLayout), t.Format(time.ANSIC)}
}

// meant is what a text should be the form of, by the library's calendar.
func meant(s string) (int, api.Errno) {
	for _, layout := range []string{http.TimeFormat, secondLayout, time.ANSIC} {
		t, err := time.Parse(layout, s)
		if err == nil && layout == secondLayout && t.Year() == 1969 {
			t = t.AddDate(100, 0, 0)
		}
		if err == nil && t.Format(layout) == s && t.Year() >= 1970 && t.Year() <= 9999 {
			return int(t.Unix()), api.OK
		}
	}
	return 0, api.ErrForm
}

func wantParse(t *testing.T, s string, at int, e api.Errno) {
	t.Helper()
	if gotAt, gotE := Parse(s); gotAt != at || gotE != e {
		t.Errorf("Parse(%q) is %d, %d, not %d, %d", s, gotAt, gotE, at, e)
	}
}

// some are moments about the edges: of years, months, days, hours, the forms.
func some() []int {
	var all []int
	about := func(at int) {
		for _, n := range []int{at - 1, at, at + 1} {
			if n >= 0 && n <= 253402300799 {
				all = append(all, n)
			}
		}
	}
	for _, y := range []int{1970, 1971, 1972, 1973, 1994, 1999, 2000, 2001, 2004, 2026, 2068, 2069, 2070, 2099, 2100, 2101, 2399, 2400, 2401, 9600, 9996, 9999} {
		for m := range 12 {
			about(int(time.Date(y, time.Month(m+1), 1, 0, 0, 0, 0, time.UTC).Unix()))
			about(int(time.Date(y, time.Month(m+1), 9, 9, 59, 59, 0, time.UTC).Unix()))
			about(int(time.Date(y, time.Month(m+1), 28, 23, 59, 59, 0, time.UTC).Unix()))
		}
	}
	for n := 1; n < 253402300799; n = n*3 + 7 {
		about(n)
	}
	about(253402300799)
	return all
}

// Of P2.1.
func TestPrint(t *testing.T) {
	for at, want := range map[int]string{
		0:            "Thu, 01 Jan 1970 00:00:00 GMT",
		1:            "Thu, 01 Jan 1970 00:00:01 GMT",
		86399:        "Thu, 01 Jan 1970 23:59:59 GMT",
		86400:        "Fri, 02 Jan 1970 00:00:00 GMT",
		784111777:    "Sun, 06 Nov 1994 08:49:37 GMT",
		951782400:    "Tue, 29 Feb 2000 00:00:00 GMT",
		3155759999:   "Tue, 31 Dec 2069 23:59:59 GMT",
		3155760000:   "Wed, 01 Jan 2070 00:00:00 GMT",
		4107542399:   "Sun, 28 Feb 2100 23:59:59 GMT",
		4107542400:   "Mon, 01 Mar 2100 00:00:00 GMT",
		253402300799: "Fri, 31 Dec 9999 23:59:59 GMT",
	} {
		if got, e := Print(at); got != want || e != api.OK {
			t.Errorf("Print(%d) is %q, %d, not %q", at, got, e, want)
		}
	}
	for _, at := range []int{-1, -86400, math.MinInt, 253402300800, 253402300801, math.MaxInt} {
		if got, e := Print(at); got != "" || e != api.ErrSize {
			t.Errorf("Print(%d) is %q, %d", at, got, e)
		}
	}
}

// Of P2.1.
func TestForms(t *testing.T) {
	for at, want := range map[int][3]string{
		0:          {"Thu, 01 Jan 1970 00:00:00 GMT", "Thursday, 01-Jan-70 00:00:00 GMT", "Thu Jan  1 00:00:00 1970"},
		784111777:  {"Sun, 06 Nov 1994 08:49:37 GMT", "Sunday, 06-Nov-94 08:49:37 GMT", "Sun Nov  6 08:49:37 1994"},
		946684800:  {"Sat, 01 Jan 2000 00:00:00 GMT", "Saturday, 01-Jan-00 00:00:00 GMT", "Sat Jan  1 00:00:00 2000"},
		951825600:  {"Tue, 29 Feb 2000 12:00:00 GMT", "Tuesday, 29-Feb-00 12:00:00 GMT", "Tue Feb 29 12:00:00 2000"},
		1257894000: {"Tue, 10 Nov 2009 23:00:00 GMT", "Tuesday, 10-Nov-09 23:00:00 GMT", "Tue Nov 10 23:00:00 2009"},
		3155759999: {"Tue, 31 Dec 2069 23:59:59 GMT", "Tuesday, 31-Dec-69 23:59:59 GMT", "Tue Dec 31 23:59:59 2069"},
	} {
		if got, e := Forms(at); got != want || e != api.OK {
			t.Errorf("Forms(%d) is %q, %d, not %q", at, got, e, want)
		}
	}
	for _, at := range []int{-1, math.MinInt, 3155760000, 3155760001, 253402300799, 253402300800, math.MaxInt} {
		if got, e := Forms(at); got != [3]string{} || e != api.ErrSize {
			t.Errorf("Forms(%d) is %q, %d", at, got, e)
		}
	}
}

// Of P2.1 and P2.3: against the library's calendar.
func TestSome(t *testing.T) {
	for _, at := range some() {
		want := told(at)
		if got, e := Print(at); got != want[0] || e != api.OK {
			t.Errorf("Print(%d) is %q, %d, not %q", at, got, e, want[0])
		}
		wantParse(t, want[0], at, api.OK)
		wantParse(t, want[2], at, api.OK)
		got, e := Forms(at)
		if at > 3155759999 {
			if got != [3]string{} || e != api.ErrSize {
				t.Errorf("Forms(%d) is %q, %d", at, got, e)
			}
			continue
		}
		if got != want || e != api.OK {
			t.Errorf("Forms(%d) is %q, %d, not %q", at, got, e, want)
		}
		wantParse(t, want[1], at, api.OK)
	}
}

// Of P2.2.
func TestParse(t *testing.T) {
	for s, at := range map[string]int{
		"Thu, 01 Jan 1970 00:00:00 GMT":    0,
		"Thursday, 01-Jan-70 00:00:00 GMT": 0,
		"Thu Jan  1 00:00:00 1970":         0,
		"Sun, 06 Nov 1994 08:49:37 GMT":    784111777,
		"Sunday, 06-Nov-94 08:49:37 GMT":   784111777,
		"Sun Nov  6 08:49:37 1994":         784111777,
		"Tue, 29 Feb 2000 12:00:00 GMT":    951825600,
		"Tuesday, 29-Feb-00 12:00:00 GMT":  951825600,
		"Tuesday, 31-Dec-69 23:59:59 GMT":  3155759999,
		"Fri Dec 31 23:59:59 9999":         253402300799,
		"Friday, 31-Dec-99 23:59:59 GMT":   946684799,
	} {
		wantParse(t, s, at, api.OK)
	}
}

// Of P2.2.
func TestParseOfWrong(t *testing.T) {
	for _, s := range []string{
		"", " ", "0", "GMT", "784111777", "Sun", "\x00", "\xff\xfe",
		// Not the date's day of the week; not as it is written.
		"Mon, 06 Nov 1994 08:49:37 GMT", "Monday, 06-Nov-94 08:49:37 GMT", "Mon Nov  6 08:49:37 1994",
		"sun, 06 Nov 1994 08:49:37 GMT", "SUN, 06 Nov 1994 08:49:37 GMT", "Sunday, 06 Nov 1994 08:49:37 GMT", "Sun, 06-Nov-94 08:49:37 GMT", "Sunday Nov  6 08:49:37 1994",
		"Sun, 06 nov 1994 08:49:37 GMT", "Sun, 06 NOV 1994 08:49:37 GMT", "Sun, 06 November 1994 08:49:37 GMT", "Sun, 06 11 1994 08:49:37 GMT", "Sun, 06 Xyz 1994 08:49:37 GMT", "Sun, 06 No 1994 08:49:37 GMT",
		// Digits too few or too many.
		"Sun, 6 Nov 1994 08:49:37 GMT", "Sun,  6 Nov 1994 08:49:37 GMT", "Sun, 006 Nov 1994 08:49:37 GMT", "Sun, 06 Nov 94 08:49:37 GMT", "Sun, 06 Nov 01994 08:49:37 GMT", "Sun, 06 Nov 1994 8:49:37 GMT", "Sun, 06 Nov 1994 08:49:7 GMT", "Sun, 06 Nov 1994 08:049:37 GMT",
		"Sunday, 6-Nov-94 08:49:37 GMT", "Sunday, 06-Nov-1994 08:49:37 GMT", "Sunday, 06-Nov-094 08:49:37 GMT", "Sunday, 06-Nov-4 08:49:37 GMT",
		"Sun Nov 06 08:49:37 1994", "Sun Nov 6 08:49:37 1994", "Sun Nov   6 08:49:37 1994", "Sun Nov  6 8:49:37 1994", "Sun Nov  6  8:49:37 1994", "Sun Nov  6 08:49:37 94", "Sun Nov  6 08:49:37 01994",
		"Thu, 01 Jan 10000 00:00:00 GMT", "Sat, 01 Jan 10000 00:00:00 GMT", "Sat Jan  1 00:00:00 10000",
		// Times and days that there aren't.
		"Sun, 06 Nov 1994 24:00:00 GMT", "Sat, 05 Nov 1994 24:00:00 GMT", "Sun, 06 Nov 1994 08:60:00 GMT", "Sun, 06 Nov 1994 08:49:60 GMT", "Sun, 06 Nov 1994 99:99:99 GMT", "Sunday, 06-Nov-94 24:00:00 GMT", "Sun Nov  6 08:49:60 1994",
		"Thu, 30 Feb 1995 00:00:00 GMT", "Wed, 29 Feb 1995 00:00:00 GMT", "Wed, 01 Mar 1995 24:00:00 GMT", "Mon, 29 Feb 2100 00:00:00 GMT", "Sun, 00 Nov 1994 08:49:37 GMT", "Mon, 31 Nov 1994 08:49:37 GMT", "Thu, 32 Dec 1994 08:49:37 GMT", "Sun Nov  0 08:49:37 1994", "Sun, 99 Nov 1994 08:49:37 GMT",
		// No moments.
		"Wed, 31 Dec 1969 23:59:59 GMT", "Wed, 31 Dec 1969 24:00:00 GMT", "Wed Dec 31 23:59:59 1969", "Wednesday, 31-Dec-69 23:59:59 GMT", "Sat, 01 Jan 0000 00:00:00 GMT", "Sun, 06 Nov 0094 08:49:37 GMT", "Mon, 01 Jan 0001 00:00:00 GMT", "Thu, 01 Jan 0070 00:00:00 GMT",
		// Other zones, none, something more.
		"Sun, 06 Nov 1994 08:49:37 UTC", "Sun, 06 Nov 1994 08:49:37 gmt", "Sun, 06 Nov 1994 08:49:37", "Sun, 06 Nov 1994 08:49:37 +0000", "Sun, 06 Nov 1994 08:49:37 GMT+1", "Sunday, 06-Nov-94 08:49:37", "Sun Nov  6 08:49:37 1994 GMT", "Sun Nov  6 08:49:37 GMT 1994",
		"Sun, 06 Nov 1994 08:49:37 GMT ", " Sun, 06 Nov 1994 08:49:37 GMT", "Sun, 06 Nov 1994 08:49:37 GMT\r\n", "\"Sun, 06 Nov 1994 08:49:37 GMT\"", "Sun, 06 Nov 1994 08:49:37 GMT, Sun, 06 Nov 1994 08:49:37 GMT", "Sun Nov  6 08:49:37 1994 ", "Sun, 06 Nov 1994 08:49:37.0 GMT", "Sun, 06 Nov 1994 08:49:37 GMT\x00",
		// Signs.
		"Sun, +6 Nov 1994 08:49:37 GMT", "Sun, -6 Nov 1994 08:49:37 GMT", "Sun, 06 Nov 1994 +8:49:37 GMT", "Sun, 06 Nov +994 08:49:37 GMT", "Sun, 06 Nov 1994 08:49:-7 GMT", "Sun Nov +6 08:49:37 1994", "Sun, \u0660\u0666 Nov 1994 08:49:37 GMT",
		// Other marks between the words.
		"Sun 06 Nov 1994 08:49:37 GMT", "Sun,06 Nov 1994 08:49:37 GMT", "Sun,\t06 Nov 1994 08:49:37 GMT", "Sun, 06-Nov-1994 08:49:37 GMT", "Sun, 06 Nov 1994 08.49.37 GMT", "Sunday, 06 Nov 94 08:49:37 GMT", "Sunday 06-Nov-94 08:49:37 GMT", "Sun Nov  6 08-49-37 1994", "Sun, Nov  6 08:49:37 1994", "Sun--06 Nov 1994 08:49:37 GMT",
		strings.Repeat("Sun, 06 Nov 1994 08:49:37 GMT", 1000), strings.Repeat(" ", 100000), strings.Repeat("1 ", 100000), strings.Repeat("9", 100000),
		"Sun, 06 Nov 1994 08:49:99999999999999999999 GMT", "Sun, 06 Nov 99999999999999 08:49:37 GMT", "Sun, 9223372036854775807 Nov 1994 0:0:0 G",
	} {
		wantParse(t, s, 0, api.ErrForm)
	}
}

// Of P2.2: all numbers in all places where a form has some.
func TestParseOfNumbers(t *testing.T) {
	for n := range 100 {
		for _, s := range []string{"Sun, %02d Nov 1994 08:49:37 GMT", "Sun, 06 Nov 1994 %02d:49:37 GMT", "Sun, 06 Nov 1994 08:%02d:37 GMT", "Sun, 06 Nov 1994 08:49:%02d GMT", "Sun, 06 Nov %02d94 08:49:37 GMT", "Sun, 06 Nov 19%02d 08:49:37 GMT", "Sunday, 06-Nov-%02d 08:49:37 GMT", "Monday, 06-Nov-%02d 08:49:37 GMT", "Tuesday, %02d-Feb-00 23:59:59 GMT", "Sun Nov %2d 08:49:37 1994", "Sun Nov %02d 08:49:37 1994", "Tue Feb %2d 08:49:37 2000", "Sun Nov  6 08:49:37 %02d94"} {
			s = fmt.Sprintf(s, n)
			at, e := meant(s)
			wantParse(t, s, at, e)
		}
	}
}

// Of P2.2: forms with one octet less, more, or other, against the library's reading.
func TestParseOfNear(t *testing.T) {
	good, bad := 0, 0
	look := func(s string) {
		at, e := meant(s)
		wantParse(t, s, at, e)
		if e == api.OK {
			good++
		} else {
			bad++
		}
	}
	for _, at := range []int{0, 784111777, 951825600, 3155759999, 1257894000, 253402300799} {
		for _, s := range told(at) {
			for i := range len(s) + 1 {
				if i < len(s) {
					look(s[:i] + s[i+1:])
					look(s[:i])
				}
				for _, c := range []byte(" 0123456789,:-+.\tSMTWFadeGJ\x00\xff") {
					look(s[:i] + string([]byte{c}) + s[i:])
					if i < len(s) {
						look(s[:i] + string([]byte{c}) + s[i+1:])
					}
				}
			}
		}
	}
	if good < 100 || bad < 1000 {
		t.Errorf("%d forms, %d others: too few to tell", good, bad)
	}
}

// Of P2.3: all days of four hundred years, and each month's ends up to the last year, counted by the calendar's rules alone.
func TestDays(t *testing.T) {
	week := []string{"Thu", "Fri", "Sat", "Sun", "Mon", "Tue", "Wed"}
	names := []string{"Jan", "Feb", "Mar", "Apr", "May", "Jun", "Jul", "Aug", "Sep", "Oct", "Nov", "Dec"}
	n := 0
	for y := 1970; y <= 9999; y++ {
		long := []int{31, 28, 31, 30, 31, 30, 31, 31, 30, 31, 30, 31}
		if y%400 == 0 || y%4 == 0 && y%100 != 0 {
			long[1] = 29
		}
		for m, name := range names {
			for d := 1; d <= long[m]; d++ {
				if y < 2371 || d == 1 || d == long[m] {
					ahead := fmt.Sprintf("%s, %02d %s %d ", week[n%7], d, name, y)
					if got, e := Print(n * oneDay); got != ahead+"00:00:00 GMT" || e != api.OK {
						t.Fatalf("Print(%d) is %q, %d", n*oneDay, got, e)
					}
					if got, e := Print(n*oneDay + 86399); got != ahead+"23:59:59 GMT" || e != api.OK {
						t.Fatalf("Print(%d) is %q, %d", n*oneDay+86399, got, e)
					}
					wantParse(t, ahead+"00:00:00 GMT", n*oneDay, api.OK)
					wantParse(t, fmt.Sprintf("%s %s %2d 23:59:59 %d", week[n%7], name, d, y), n*oneDay+86399, api.OK)
				}
				n++
			}
		}
	}
	if n*oneDay != 253402300800 {
		t.Errorf("%d days", n)
	}
}

// Of P2.3: all seconds of a day, in all forms.
func TestSeconds(t *testing.T) {
	from := 784111777 / oneDay * oneDay
	for n := range oneDay {
		got, e := Forms(from + n)
		if e != api.OK {
			t.Fatalf("Forms(%d): %d", from+n, e)
		}
		clock := fmt.Sprintf("%02d:%02d:%02d", n/3600, n/60%60, n%60)
		want := [3]string{"Sun, 06 Nov 1994 " + clock + " GMT", "Sunday, 06-Nov-94 " + clock + " GMT", "Sun Nov  6 " + clock + " 1994"}
		if got != want {
			t.Fatalf("Forms(%d) is %q, not %q", from+n, got, want)
		}
		for _, s := range got {
			wantParse(t, s, from+n, api.OK)
		}
	}
}

// Of P2.3: every day that has a second form.
func TestSecondForm(t *testing.T) {
	seen := map[string]int{}
	for at := 43210; at <= 3155759999; at += oneDay {
		got, e := Forms(at)
		if e != api.OK {
			t.Fatalf("Forms(%d): %d", at, e)
		}
		for _, s := range got {
			if was, ok := seen[s]; ok {
				t.Fatalf("%q is a form of %d and of %d", s, was, at)
			}
			seen[s] = at
			wantParse(t, s, at, api.OK)
		}
	}
}

// Of P2.3.
func TestNewMemory(t *testing.T) {
	var all []string
	for range 2 {
		got, e := Forms(784111777)
		s, f := Print(784111777)
		if e != api.OK || f != api.OK {
			t.Fatal(e, f)
		}
		all = append(all, s)
		all = append(all, got[:]...)
	}
	slices.SortFunc(all, func(a, b string) int { return int(place(a)) - int(place(b)) })
	for i, s := range all[1:] {
		if place(s) < place(all[i])+uintptr(len(all[i])) {
			t.Errorf("%q and %q share memory", all[i], s)
		}
	}
}

func place(s string) uintptr { return uintptr(unsafe.Pointer(unsafe.StringData(s))) }
