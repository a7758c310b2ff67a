package target

import (
	"fmt"
	"math"
	"regexp"
	"strconv"
	"strings"
	"testing"
	"unsafe"

	"icehouse/api"
)

const most = 8000

// What stands in URIs, as RFC 3986 names it.
const (
	letters = "ABCDEFGHIJKLMNOPQRSTUVWXYZabcdefghijklmnopqrstuvwxyz"
	figures = "0123456789"
	loose   = letters + figures + "-._~"
	subs    = "!$&'()*+,;="
)

// texts is all texts of at most so many of the pieces.
func texts(most int, pieces ...string) []string {
	all := []string{""}
	for from := 0; most > 0; most-- {
		to := len(all)
		for _, s := range all[from:to] {
			for _, piece := range pieces {
				all = append(all, s+piece)
			}
		}
		from = to
	}
	return all
}

func one(c int) string { return string([]byte{byte(c)}) }

func brief(x any) string {
	s := fmt.Sprintf("%q", x)
	if len(s) > 120 {
		return s[:120] + " .."
	}
	return s
}

func uri(host string, port int, path string) api.URI {
	return api.URI{Host: host, Port: port, Path: path}
}

// want holds an answer against what was asked for; beside an error nothing is told.
func want(t *testing.T, what string, got api.URI, e api.Errno, uri api.URI, errno api.Errno) {
	t.Helper()
	if got != uri || e != errno {
		t.Errorf("%s is %s, %d, not %s, %d", what, brief(got), e, brief(uri), errno)
	}
}

func wantParse(t *testing.T, s string, u api.URI, errno api.Errno) {
	t.Helper()
	got, e := Parse(s)
	want(t, "Parse of "+brief(s), got, e, u, errno)
}

func wantOf(t *testing.T, target, host string, u api.URI, errno api.Errno) {
	t.Helper()
	got, e := Of(target, host)
	want(t, "Of "+brief(target)+", "+brief(host), got, e, u, errno)
}

func wantResolve(t *testing.T, u api.URI, ref string, v api.URI, errno api.Errno) {
	t.Helper()
	got, e := Resolve(u, ref)
	want(t, "Resolve of "+brief(u)+", "+brief(ref), got, e, v, errno)
}

// The forms of a host, a port, a path, a query, and of all of a URI.
const (
	hostForm  = `([-._~!$&'()*+,;=0-9A-Za-z]+|\[[0-9A-Fa-f:.]+\])`
	portForm  = `(?::([0-9]{0,5}))?`
	pathForm  = `((?:/(?:[-._~!$&'()*+,;=:@/0-9A-Za-z]|%[0-9A-Fa-f]{2})*)?)`
	queryForm = `((?:\?(?:[-._~!$&'()*+,;=:@/?0-9A-Za-z]|%[0-9A-Fa-f]{2})*)?)`
)

var (
	uriForm = regexp.MustCompile(`(?s)\A(?i:http://)` + hostForm + portForm + pathForm + queryForm + `\z`)
	code    = regexp.MustCompile(`%..`)
	colon   = regexp.MustCompile(`(?s)\A[^/?]*:`)
	begins  = regexp.MustCompile(`\A(?i:http://)`)
)

// recoded is a text with its codes made normal.
func recoded(s string) string {
	return code.ReplaceAllStringFunc(s, func(s string) string {
		n, _ := strconv.ParseUint(s[1:], 16, 8)
		if strings.Contains(loose, one(int(n))) {
			return one(int(n))
		}
		return strings.ToUpper(s)
	})
}

// dotless is RFC 3986's remove_dot_segments (5.2.4), letter by letter.
func dotless(in string) string {
	out := ""
	for in != "" {
		switch {
		case strings.HasPrefix(in, "/./"):
			in = in[2:]
		case in == "/.":
			in = "/"
		case strings.HasPrefix(in, "/../") || in == "/..":
			in = "/" + strings.TrimPrefix(in[3:], "/")
			out = out[:max(strings.LastIndex(out, "/"), 0)]
		default:
			n := strings.Index(in[1:], "/") + 1
			if n == 0 {
				n = len(in)
			}
			out, in = out+in[:n], in[n:]
		}
	}
	return out
}

// meant is what a text says.
func meant(s string) (api.URI, api.Errno) {
	parts := uriForm.FindStringSubmatch(s)
	if parts == nil {
		return api.URI{}, api.ErrForm
	}
	port := 80
	if parts[2] != "" {
		if port, _ = strconv.Atoi(parts[2]); port > 65535 {
			return api.URI{}, api.ErrForm
		}
	}
	path := parts[3]
	if path == "" {
		path = "/"
	}
	return uri(strings.ToLower(parts[1]), port, dotless(recoded(path))+recoded(parts[4])), api.OK
}

// led is where a reference leads, by RFC 3986, 5.2.2, but for other schemes.
func led(u api.URI, ref string) (api.URI, api.Errno) {
	place := "http://" + u.Host + ":" + strconv.Itoa(u.Port)
	base, _, _ := strings.Cut(u.Path, "?")
	switch {
	case ref == "":
		return u, api.OK
	case begins.MatchString(ref):
		return meant(ref)
	case strings.HasPrefix(ref, "//"):
		return meant("http:" + ref)
	case strings.HasPrefix(ref, "/"):
		return meant(place + ref)
	case strings.HasPrefix(ref, "?"):
		return meant(place + base + ref)
	case colon.MatchString(ref):
		return api.URI{}, api.ErrForm
	}
	return meant(place + base[:strings.LastIndex(base, "/")] + "/" + ref)
}

// Of P5.1.
func TestParse(t *testing.T) {
	for s, u := range map[string]api.URI{
		"HTTP://A.b:080/x/./y/../%7Ez?q=%2f":  uri("a.b", 80, "/x/~z?q=%2F"),
		"http://a":                            uri("a", 80, "/"),
		"http://a/":                           uri("a", 80, "/"),
		"http://a?":                           uri("a", 80, "/?"),
		"http://a?q":                          uri("a", 80, "/?q"),
		"http://a:?q":                         uri("a", 80, "/?q"),
		"http://a:":                           uri("a", 80, "/"),
		"http://a:/":                          uri("a", 80, "/"),
		"http://a:0/":                         uri("a", 0, "/"),
		"http://a:00000":                      uri("a", 0, "/"),
		"http://a:8":                          uri("a", 8, "/"),
		"http://a:80":                         uri("a", 80, "/"),
		"http://a:00080?x":                    uri("a", 80, "/?x"),
		"http://a:65535/":                     uri("a", 65535, "/"),
		"hTtP://WWW.Example.COM:8080/A/B?C=D": uri("www.example.com", 8080, "/A/B?C=D"),
		"http://1.2.3.4":                      uri("1.2.3.4", 80, "/"),
		"http://-":                            uri("-", 80, "/"),
		"http://..":                           uri("..", 80, "/"),
		"http://[::1]":                        uri("[::1]", 80, "/"),
		"http://[::1]:81/x":                   uri("[::1]", 81, "/x"),
		"http://[::1]?x":                      uri("[::1]", 80, "/?x"),
		"http://[::FFFF:1.2.3.4]:/":           uri("[::ffff:1.2.3.4]", 80, "/"),
		"http://[:]:":                         uri("[:]", 80, "/"),
		"http://[a]":                          uri("[a]", 80, "/"),
		"http://a/x@y:z":                      uri("a", 80, "/x@y:z"),
		"http://a//":                          uri("a", 80, "//"),
		"http://a//b//":                       uri("a", 80, "//b//"),
		"http://a/??":                         uri("a", 80, "/??"),
		"http://a/?/../.?/%2e%2E/.":           uri("a", 80, "/?/../.?/../."),
		"http://a?/x/../y":                    uri("a", 80, "/?/x/../y"),
		"http://a/%25%37e":                    uri("a", 80, "/%257e"),
		"http://a/%2525":                      uri("a", 80, "/%2525"),
		"http://a/%c3%aF?%c3%aF":              uri("a", 80, "/%C3%AF?%C3%AF"),
		"http://a/b%2f..%2f../c":              uri("a", 80, "/b%2F..%2F../c"),
		"http://a/b%3F/../c":                  uri("a", 80, "/c"),
		"http://a/.":                          uri("a", 80, "/"),
		"http://a/..":                         uri("a", 80, "/"),
		"http://a/./":                         uri("a", 80, "/"),
		"http://a/../":                        uri("a", 80, "/"),
		"http://a/../..":                      uri("a", 80, "/"),
		"http://a/../../x":                    uri("a", 80, "/x"),
		"http://a/b/.":                        uri("a", 80, "/b/"),
		"http://a/b/..":                       uri("a", 80, "/"),
		"http://a/b/c/..":                     uri("a", 80, "/b/"),
		"http://a/b/c/../":                    uri("a", 80, "/b/"),
		"http://a/b/c/./../../d":              uri("a", 80, "/d"),
		"http://a/b/../../../c/d/../e":        uri("a", 80, "/c/e"),
		"http://a/b//..":                      uri("a", 80, "/b/"),
		"http://a/b//../c":                    uri("a", 80, "/b/c"),
		"http://a//..":                        uri("a", 80, "/"),
		"http://a//.":                         uri("a", 80, "//"),
		"http://a//../b":                      uri("a", 80, "/b"),
		"http://a/...":                        uri("a", 80, "/..."),
		"http://a/.b/..c/d./e..":              uri("a", 80, "/.b/..c/d./e.."),
		"http://a/b/%2e":                      uri("a", 80, "/b/"),
		"http://a/b/.%2e/%2E":                 uri("a", 80, "/"),
		"http://a/b/..?..":                    uri("a", 80, "/?.."),
		"http://a/b/.?/.":                     uri("a", 80, "/b/?/."),
		"http://!$&'()*+,;=-._~/!$&'()*+,;=:@-._~?": uri("!$&'()*+,;=-._~", 80, "/!$&'()*+,;=:@-._~?"),
	} {
		wantParse(t, s, u, api.OK)
	}
	for _, s := range []string{
		"", " ", "/", "/x", "//a", "//a/x", "a", "a:80", "*", "?", "http", "http:", "http:/", "http:/a", "http:a", "http//a", "http:\\\\a", "https://a", "ftp://a", "xhttp://a", " http://a", "http ://a", "http:// a", "http://a ",
		"http://", "http:///", "http:///x", "http://?", "http://?x", "http://:", "http://:80", "http://:80/", "http://@a", "http://u@a", "http://u:80@a", "http://a@", "http://%61", "http://a%2e", "http://a#", "http://a/#", "http://a?#", "http://\u00e9", "http://a\\",
		"http://a:65536", "http://a:99999/", "http://a:000000", "http://a:000080", "http://a:100000", "http://a:18446744073709551696", "http://a:-1", "http://a:+1", "http://a:8x", "http://a:x", "http://a: 80", "http://a:80 ", "http://a::80", "http://a:80:", "http://a:8:0", "http://a:%38", "http://a:\u0668",
		"http://[", "http://]", "http://[]", "http://[]:80/", "http://[::1", "http://::1", "http://::1]", "http://[::1]x", "http://x[::1]", "http://[::1]]", "http://[[::1]", "http://[[::1]]", "http://[::1]80", "http://[::1]:65536", "http://[::g]", "http://[v1.x]", "http://[1%31]", "http://[-]", "http://[a/b]", "http://[a?b]", "http://[ ]", "http://a]:80", "http://[a]b]", "http://[a:80]:8:0",
		"http://a/%", "http://a/%4", "http://a/x%4", "http://a/%zz", "http://a/%4z", "http://a/%z4", "http://a/%%41", "http://a/%4%31", "http://a/% 1", "http://a/%+1", "http://a/%0x41", "http://a/%%", "http://a/%/41", "http://a/%u0041",
		"http://a?%", "http://a?%4", "http://a/?x%zz", "http://a/%?41", "http://a/%4?1", "http://a/x?y%",
		"http://a/ ", "http://a/x y", "http://a/[", "http://a/x]", "http://a/{}", "http://a/\"", "http://a/<", "http://a/|", "http://a/^", "http://a/`", "http://a/\\", "http://a/\t", "http://a/\r\n", "http://a/\x00", "http://a/\x7f", "http://a/\x80", "http://a/\u00e9", "http://a/?x y", "http://a/?[", "http://a/?\u00e9",
	} {
		wantParse(t, s, api.URI{}, api.ErrForm)
	}
}

// Of P5.1.
func TestScheme(t *testing.T) {
	for set := range 16 {
		scheme := []byte("http")
		for i := range scheme {
			if set>>i&1 == 1 {
				scheme[i] -= 'a' - 'A'
			}
		}
		wantParse(t, string(scheme)+"://a/x", uri("a", 80, "/x"), api.OK)
		wantResolve(t, uri("b", 81, "/c"), string(scheme)+"://a/x", uri("a", 80, "/x"), api.OK)
		wantOf(t, string(scheme)+"://a/x", "b", uri("a", 80, "/x"), api.OK)
	}
	for i := range len("http://") {
		for c := range 256 {
			s := "http://"[:i] + one(c) + "http://"[i+1:] + "a/x"
			if strings.EqualFold(s, "http://a/x") {
				wantParse(t, s, uri("a", 80, "/x"), api.OK)
			} else {
				wantParse(t, s, api.URI{}, api.ErrForm)
			}
		}
	}
}

// Of P5.1: each octet, plain and coded, at each place.
func TestOctets(t *testing.T) {
	for c := range 256 {
		s := one(c)
		check := func(fit bool, text string, u api.URI) {
			t.Helper()
			if fit {
				wantParse(t, text, u, api.OK)
			} else {
				wantParse(t, text, api.URI{}, api.ErrForm)
			}
		}
		inHost := strings.Contains(loose+subs, s)
		inPath := inHost || s == ":" || s == "@" || s == "/"
		small := s
		if 'A' <= c && c <= 'Z' {
			small = one(c + 'a' - 'A')
		}
		if s != ":" && s != "/" && s != "?" {
			for _, x := range []string{"", "x"} {
				check(inHost, "http://"+s+x, uri(small+x, 80, "/"))
				check(inHost, "http://x"+s+x+":81/", uri("x"+small+x, 81, "/"))
			}
		}
		check(strings.Contains("0123456789abcdefABCDEF:.", s), "http://[1"+s+"]", uri("[1"+small+"]", 80, "/"))
		check(strings.Contains("0123456789abcdefABCDEF:.", s), "http://["+s+"]:1", uri("["+small+"]", 1, "/"))
		if s != "/" && s != "?" {
			check(strings.Contains(figures, s), "http://a:1"+s, uri("a", 10+c-'0', "/"))
		}
		if s != "?" {
			check(inPath, "http://a/x"+s+"y", uri("a", 80, "/x"+s+"y"))
			check(inPath, "http://a/"+s+"y", uri("a", 80, "/"+s+"y"))
		}
		check(inPath || s == "?", "http://a/?x"+s+"y", uri("a", 80, "/?x"+s+"y"))
		check(inPath || s == "?", "http://a?"+s, uri("a", 80, "/?"+s))
		coded := fmt.Sprintf("%%%02X", c)
		if strings.Contains(loose, s) {
			coded = s
		}
		for _, form := range []string{"%%%02x", "%%%02X"} {
			was := fmt.Sprintf(form, c)
			wantParse(t, "http://a/x"+was+"y?x"+was+"y", uri("a", 80, "/x"+coded+"y?x"+coded+"y"), api.OK)
			wantParse(t, "http://"+was, api.URI{}, api.ErrForm)
			wantParse(t, "http://["+was+"]", api.URI{}, api.ErrForm)
			wantParse(t, "http://a:"+was, api.URI{}, api.ErrForm)
		}
	}
}

// Of P5.1.
func TestPorts(t *testing.T) {
	for n := range 100000 {
		s, errno, u := strconv.Itoa(n), api.OK, uri("a", n, "/")
		if n > 65535 {
			u, errno = api.URI{}, api.ErrForm
		}
		wantParse(t, "http://a:"+s+"/", u, errno)
		wantParse(t, fmt.Sprintf("http://a:%05d", n), u, errno)
		wantParse(t, fmt.Sprintf("http://a:%06d", n), api.URI{}, api.ErrForm)
	}
}

// Of P5.1, P5.2 and P5.3: ErrLong comes ahead of ErrForm.
func TestLong(t *testing.T) {
	for _, s := range []string{"http://a/", "http://a?", "http://a/?", "http://a"} {
		full := s + strings.Repeat("x", most-len(s))
		u, errno := meant(full)
		wantParse(t, full, u, errno)
		wantOf(t, full, "b", u, errno)
		wantResolve(t, uri("b", 80, "/"), full, u, errno)
		wantParse(t, full+"x", api.URI{}, api.ErrLong)
		wantOf(t, full+"x", "b", api.URI{}, api.ErrLong)
		wantResolve(t, uri("b", 80, "/"), full+"x", api.URI{}, api.ErrLong)
	}
	for _, c := range []string{" ", "/", "x", ":", "%"} {
		wantParse(t, strings.Repeat(c, most), api.URI{}, api.ErrForm)
		wantParse(t, strings.Repeat(c, most+1), api.URI{}, api.ErrLong)
		wantOf(t, strings.Repeat(c, most+1), "a", api.URI{}, api.ErrLong)
		wantOf(t, strings.Repeat(c, most+1), " ", api.URI{}, api.ErrLong)
		wantOf(t, "/", strings.Repeat(c, most+1), api.URI{}, api.ErrLong)
		wantOf(t, " ", strings.Repeat(c, most+1), api.URI{}, api.ErrLong)
		wantOf(t, "http://a", strings.Repeat(c, most+1), api.URI{}, api.ErrLong)
		wantResolve(t, uri("a", 80, "/"), strings.Repeat(c, most+1), api.URI{}, api.ErrLong)
		// What isn't right comes ahead.
		wantResolve(t, api.URI{}, strings.Repeat(c, most+1), api.URI{}, api.ErrArg)
	}
	path, host := "/"+strings.Repeat("x", most-1), strings.Repeat("a", most)
	wantOf(t, path, "A", uri("a", 80, path), api.OK)
	wantOf(t, "/", host, uri(host, 80, "/"), api.OK)
	wantOf(t, path, strings.ToUpper(host), uri(host, 80, path), api.OK)
	// Codes count as they stand.
	codes := strings.Repeat("%41", 2664)
	wantParse(t, "http://a"+codes, api.URI{}, api.ErrForm)
	wantParse(t, "http://a"+"?"+codes[:7989], uri("a", 80, "/?"+strings.Repeat("A", 2663)), api.OK)
	wantParse(t, "http://a/"+codes, api.URI{}, api.ErrLong)
	// Of a reference that // begins, the text with http: ahead counts.
	wantResolve(t, uri("b", 80, "/"), "//a/"+strings.Repeat("x", most-9), uri("a", 80, "/"+strings.Repeat("x", most-9)), api.OK)
	wantResolve(t, uri("b", 80, "/"), "//a/"+strings.Repeat("x", most-8), api.URI{}, api.ErrLong)
	// A reference may be as long as a target, and lead to what is longer.
	wantResolve(t, uri("b", 80, "/y/z"), strings.Repeat("x", most), uri("b", 80, "/y/"+strings.Repeat("x", most)), api.OK)
	wantResolve(t, uri("b", 80, "/y/z"), path, uri("b", 80, path), api.OK)
	wantResolve(t, uri("b", 80, "/y/z?"), "?"+path[1:], uri("b", 80, "/y/z?"+path[1:]), api.OK)
}

// Of P5.2.
func TestOf(t *testing.T) {
	for _, c := range []struct {
		target, host string
		u            api.URI
	}{
		{"/", "a", uri("a", 80, "/")},
		{"/x?y", "A:81", uri("a", 81, "/x?y")},
		{"/?", "a:", uri("a", 80, "/?")},
		{"//b/x", "a", uri("a", 80, "//b/x")},
		{"//", "a:00080", uri("a", 80, "//")},
		{"/b/./../%7e/%2f?%7e%2f", "[::A]:65535", uri("[::a]", 65535, "/~/%2F?~%2F")},
		{"/x:y@z", "1.2.3.4:0", uri("1.2.3.4", 0, "/x:y@z")},
		{"/http://b", "a", uri("a", 80, "/http://b")},
		// The target's host is the one that is asked for.
		{"http://b/x", "a", uri("b", 80, "/x")},
		{"HTTP://B:81", "a:82", uri("b", 81, "/")},
		{"http://b?x", "[::]", uri("b", 80, "/?x")},
	} {
		wantOf(t, c.target, c.host, c.u, api.OK)
	}
	for _, target := range []string{"", "*", "x", "a:80", "?", "?x", ".", "//?\x00", "/ ", "/#", "/%", "/%4", "/x?%zz", "/?\xff", "/[", "http://", "http:/x", "http:///", "http://b:x", "http://u@b", "https://b", " /", "http://b /", "x/y", "%2f"} {
		wantOf(t, target, "a", api.URI{}, api.ErrForm)
	}
	for _, host := range []string{"", ":", ":80", " ", " a", "a ", "a b", "a/", "a/b", "/a", "a?", "a:80/", "a:x", "a:65536", "a:000080", "a:80:80", "u@a", "a%41", "%41", "[", "[]", "[::1", "::1", "[::1]x", "a,b c", "http://a", "//a", "a\x00", "\u00e9", "a#", "a\r\n", "[::g]"} {
		for _, target := range []string{"/", "/x?y", "http://b/x", "", "*", "/%"} {
			wantOf(t, target, host, api.URI{}, api.ErrForm)
		}
	}
}

// Of P5.2: all short targets and hosts.
func TestOfAll(t *testing.T) {
	hosts := texts(4, "a", "B", ":", "8", "[", "]", "/", "?", "%")
	for _, host := range hosts {
		u, errno := meant("http://" + host)
		if strings.ContainsAny(host, "/?") {
			u, errno = api.URI{}, api.ErrForm
		}
		wantOf(t, "/", host, u, errno)
	}
	for _, target := range append(texts(5, "/", ".", "?", "%2e", "%2f", "a", ":"), texts(3, "http://", "/", "a", ":1", "?", "*")...) {
		u, errno := meant(target)
		if strings.HasPrefix(target, "/") {
			u, errno = meant("http://c:81" + target)
		}
		wantOf(t, target, "C:81", u, errno)
	}
}

// Of P5.2: whatever the parts are, they stand as they are.
func TestPrint(t *testing.T) {
	for _, c := range []struct {
		u api.URI
		s string
	}{
		{uri("a", 80, "/"), "http://a/"},
		{uri("a", 81, "/x?y"), "http://a:81/x?y"},
		{uri("a", 8080, "/"), "http://a:8080/"},
		{uri("[::1]", 0, "//?"), "http://[::1]:0//?"},
		{uri("a", 65535, "/"), "http://a:65535/"},
		{api.URI{}, "http://:0"},
		{uri("", 80, ""), "http://"},
		{uri("A b", -1, "x/../%7e"), "http://A b:0x/../%7e"},
		{uri("a", math.MinInt, ""), "http://a:0"},
		{uri("a", math.MaxInt, ""), "http://a:9223372036854775807"},
		{uri("\xff", 1<<32+80, "\x00"), "http://\xff:4294967376\x00"},
	} {
		if got := Print(c.u); got != c.s {
			t.Errorf("Print of %v is %q, not %q", c.u, got, c.s)
		}
	}
}

// Of P5.3.
func TestRight(t *testing.T) {
	for _, u := range []api.URI{uri("a", 80, "/"), uri("a", 0, "/"), uri("a.b", 65535, "//x/~y?z=%2F"), uri("[::1]", 80, "/?"), uri("[::f]", 81, "/??/../."), uri("a", 80, "/..."), uri("a", 80, "/%25%2Fb"),
		uri(strings.Repeat("a", most-8), 80, "/"), uri("a", 80, "/"+strings.Repeat("x", most-9)), uri("a", 81, "/"+strings.Repeat("x", most-12))} {
		if !Right(u) {
			t.Errorf("Right of %s is false", brief(u))
		}
	}
	for _, u := range []api.URI{{}, uri("", 80, "/"), uri("a", 80, ""), uri("A", 80, "/"), uri("[::F]", 80, "/"), uri("a", -1, "/"), uri("a", 65536, "/"), uri("a", math.MinInt, "/"), uri("a", math.MaxInt, "/"), uri("a", 1<<16+80, "/"), uri("a", 1<<32+80, "/"),
		uri("a:81", 80, "/"), uri("a:80", 80, "/"), uri("a:", 80, "/"), uri("a", 80, ":81/"), uri("a", 80, ":/"), uri("a/b", 80, "/"), uri("a", 80, "b/"), uri("a", 80, "x"), uri("a?", 80, "/"), uri("a", 80, "?x"), uri("a", 81, "0/"), uri("u@a", 80, "/"), uri("a b", 80, "/"), uri("[::1", 80, "]/"), uri("[]", 80, "/"),
		uri("a", 80, "/."), uri("a", 80, "/.."), uri("a", 80, "/x/../y"), uri("a", 80, "/./x"), uri("a", 80, "/%7e"), uri("a", 80, "/%2f"), uri("a", 80, "/?%2f"), uri("a", 80, "/?%7E"), uri("a", 80, "/%"), uri("a", 80, "/ "), uri("a", 80, "/#"), uri("a", 80, "/\xff"), uri("a", 80, " /"),
		uri(strings.Repeat("a", most-7), 80, "/"), uri("a", 80, "/"+strings.Repeat("x", most-8)), uri("a", 81, "/"+strings.Repeat("x", most-11))} {
		if Right(u) {
			t.Errorf("Right of %s is true", brief(u))
		}
		for _, ref := range []string{"", "x", "/x", "?x", "//b", "http://b/", "x:y", "%"} {
			wantResolve(t, u, ref, api.URI{}, api.ErrArg)
		}
	}
	for _, host := range []string{"a", "A", "", "[::]", "a:8"} {
		for _, path := range texts(4, "/", ".", "?", "a", "%2e", "%2F", "%2f") {
			for _, port := range []int{80, 8} {
				u := uri(host, port, path)
				text := "http://" + host + path
				if port == 8 {
					text = "http://" + host + ":8" + path
				}
				v, errno := meant(text)
				if got := Right(u); got != (errno == api.OK && v == u) {
					t.Errorf("Right of %v is %t", u, got)
				}
			}
		}
	}
}

// Of P5.3.
func TestResolve(t *testing.T) {
	u := uri("a.b", 80, "/x/~z?q=%2F")
	wantResolve(t, u, "../w", uri("a.b", 80, "/w"), api.OK)
	// RFC 3986, 5.4, but what has a scheme or a fragment.
	u = uri("a", 81, "/b/c/d;p?q")
	for ref, path := range map[string]string{
		"": "/b/c/d;p?q", "g": "/b/c/g", "./g": "/b/c/g", "g/": "/b/c/g/", "/g": "/g", "?y": "/b/c/d;p?y", "g?y": "/b/c/g?y", ";x": "/b/c/;x", "g;x": "/b/c/g;x", ".": "/b/c/", "./": "/b/c/", "..": "/b/", "../": "/b/", "../g": "/b/g", "../..": "/", "../../": "/", "../../g": "/g",
		"../../../g": "/g", "../../../../g": "/g", "/./g": "/g", "/../g": "/g", "g.": "/b/c/g.", ".g": "/b/c/.g", "g..": "/b/c/g..", "..g": "/b/c/..g", "./../g": "/b/g", "./g/.": "/b/c/g/", "g/./h": "/b/c/g/h", "g/../h": "/b/c/h", "g;x=1/./y": "/b/c/g;x=1/y", "g;x=1/../y": "/b/c/y", "g?y/./x": "/b/c/g?y/./x", "g?y/../x": "/b/c/g?y/../x",
		"?": "/b/c/d;p?", "??": "/b/c/d;p??", "?:": "/b/c/d;p?:", "?/../x": "/b/c/d;p?/../x", "/": "/", "/?": "/?", "/x:y": "/x:y", "x/y:z": "/b/c/x/y:z", "x?y:z": "/b/c/x?y:z", "./x:y": "/b/c/x:y", "%7e": "/b/c/~", "%2e%2E/g": "/b/g", "%2f": "/b/c/%2F", "%3a": "/b/c/%3A", "?%7e%2f": "/b/c/d;p?~%2F", "/%7e": "/~", "@": "/b/c/@", "g//": "/b/c/g//", "http": "/b/c/http", "http/": "/b/c/http/", "/http://b": "/http://b", "?http://b": "/b/c/d;p?http://b",
	} {
		wantResolve(t, u, ref, uri("a", 81, path), api.OK)
	}
	for ref, v := range map[string]api.URI{"//g": uri("g", 80, "/"), "//G:82/x/../y": uri("g", 82, "/y"), "//g?y": uri("g", 80, "/?y"), "//[::1]:": uri("[::1]", 80, "/"), "http://g": uri("g", 80, "/"), "HTTP://G:82/.?y": uri("g", 82, "/?y"), "http://a:81": uri("a", 81, "/")} {
		wantResolve(t, u, ref, v, api.OK)
	}
	for _, ref := range []string{":", "::", "g:h", "x:/y", "x:?y", "http:", "http:g", "http:/g", "https://g", "ftp://g", "mailto:x", "1:2", ":/", ":80/x", "%3a:", "a@b:c", "//", "///", "///x", "//?", "//:80", "//g h", "//g:x", "//u@g", "http://", "http:///x", "http://g:x", "http://g/%",
		"#", "#s", "g#s", "?#", " ", " g", "g ", "%", "%4", "g%zz", "?%", "?%4", "?y z", "/ ", "/%", "/#", "[", "\\", "\x00", "\xff", "g\r\n", "//\xff", "?\x7f", "..\\g", "\u00e9", "/\"", "{x}"} {
		wantResolve(t, u, ref, api.URI{}, api.ErrForm)
	}
	for path, leads := range map[string]string{"/": "/g", "/x": "/g", "//": "//g", "/x/": "/x/g", "//x": "//g", "/?": "/g", "/?/y/z": "/g", "/x/y?/z": "/x/g", "/x/...": "/x/g", "/x/%2F": "/x/g"} {
		wantResolve(t, uri("a", 80, path), "g", uri("a", 80, leads), api.OK)
		wantResolve(t, uri("a", 80, path), "", uri("a", 80, path), api.OK)
		bare, _, _ := strings.Cut(path, "?")
		wantResolve(t, uri("a", 80, path), "?g", uri("a", 80, bare+"?g"), api.OK)
	}
}

// Of P5.3: all short references.
func TestResolveAll(t *testing.T) {
	refs := append(texts(5, "/", ".", "?", ":", "a", "%2e"), texts(4, "http://", "//", "/", "..", "?", "a", ":1", "http:", "%")...)
	for _, u := range []api.URI{uri("a", 80, "/"), uri("b.c", 81, "/x/y?/z/w"), uri("[::1]", 0, "//x//?")} {
		for _, ref := range refs {
			v, errno := led(u, ref)
			if wantResolve(t, u, ref, v, errno); t.Failed() {
				return
			}
		}
	}
}

// Of P5.1 and P5.4: all short texts; of each URI, its text's URI is it, and Right.
func TestParseAll(t *testing.T) {
	all := texts(4, "a", "B", "/", "?", ":", "8", "[", "]", "%", ".", "~", " ")
	for _, s := range texts(6, "/", ".", "?", "a", "%2e", "%2F", "%2f") {
		all = append(all, "a"+s)
	}
	good := 0
	for _, s := range all {
		u, errno := meant("http://" + s)
		if wantParse(t, "http://"+s, u, errno); t.Failed() {
			return
		}
		if errno == api.OK {
			good++
			wantParse(t, Print(u), u, api.OK)
			if !Right(u) {
				t.Errorf("Right of %v is false", u)
			}
			wantOf(t, u.Path, strings.TrimSuffix(strings.TrimPrefix(Print(u), "http://"), u.Path), u, api.OK)
			wantResolve(t, u, "", u, api.OK)
			wantResolve(t, u, Print(u), u, api.OK)
		}
	}
	if good < 50000 {
		t.Errorf("%d texts that are URIs: too few to tell", good)
	}
}

// overlap: do two texts share octets?
func overlap(a, b string) bool {
	if a == "" || b == "" {
		return false
	}
	p, q := uintptr(unsafe.Pointer(unsafe.StringData(a))), uintptr(unsafe.Pointer(unsafe.StringData(b)))
	return p < q+uintptr(len(b)) && q < p+uintptr(len(a))
}

// Of P5.4.
func TestNewMemory(t *testing.T) {
	fresh := func(what, answer string, handed ...string) {
		t.Helper()
		for _, s := range handed {
			if overlap(answer, s) {
				t.Errorf("%s: %q shares memory with %q", what, answer, s)
			}
		}
	}
	u := uri(strings.Clone("host"), 80, strings.Clone("/path/more?query"))
	fresh("Print", Print(u), u.Host, u.Path)
	for _, s := range []string{"http://host", "http://host/path", "http://host/path?query", "http://host?query", "http://host:81/path/../more/", "/path", "/path/x?query", "?query", "", "path", "//host/path", "//host"} {
		s := strings.Clone(s)
		v, _ := Parse(s)
		fresh("Parse", v.Host, s)
		fresh("Parse", v.Path, s)
		host := strings.Clone("host:80")
		v, _ = Of(s, host)
		fresh("Of", v.Host, s, host)
		fresh("Of", v.Path, s, host)
		v, e := Resolve(u, s)
		if e != api.OK {
			t.Errorf("Resolve of %q is %d", s, e)
		}
		fresh("Resolve", v.Host, s, u.Host, u.Path)
		fresh("Resolve", v.Path, s, u.Host, u.Path)
	}
}
