package uri_test

import (
	"regexp"
	"slices"
	"strings"
	"testing"

	"exequatur/api"
	"exequatur/pairs"
	"exequatur/short"
	"exequatur/uri"
)

func wantParse(t *testing.T, s string, want api.URI, wantE api.Errno) {
	t.Helper()
	if got, e := uri.Parse(s); e != wantE || got != want {
		t.Errorf("Parse(%.80q): %q, %d; want %q, %d", s, got, e, want, wantE)
	}
}

// P3.1: Parse of URIs as they come, and at their edges.
func TestParse(t *testing.T) {
	for _, x := range []struct {
		s    string
		want api.URI
	}{
		{"http://a", api.URI{Scheme: "http", Host: "a"}},
		{"https://a", api.URI{Scheme: "https", Host: "a"}},
		{"https://a.b:80/c/d?e=f?g", api.URI{Scheme: "https", Host: "a.b:80", Path: "/c/d", Query: "e=f?g"}},
		{"https://idp.example-1.org/authorize", api.URI{Scheme: "https", Host: "idp.example-1.org", Path: "/authorize"}},
		// A host's bytes stand in any order: it is no more than one or more of them.
		{"http://.", api.URI{Scheme: "http", Host: "."}},
		{"http://-", api.URI{Scheme: "http", Host: "-"}},
		{"http://:", api.URI{Scheme: "http", Host: ":"}},
		{"http://:-..0", api.URI{Scheme: "http", Host: ":-..0"}},
		{"http://az09", api.URI{Scheme: "http", Host: "az09"}},
		// Paths.
		{"http://a/", api.URI{Scheme: "http", Host: "a", Path: "/"}},
		{"http://a//", api.URI{Scheme: "http", Host: "a", Path: "//"}},
		{"http://a/B%2f%zz/../~", api.URI{Scheme: "http", Host: "a", Path: "/B%2f%zz/../~"}},
		{"http://a/http://b/c", api.URI{Scheme: "http", Host: "a", Path: "/http://b/c"}},
		{"http://a/[!$&'()*+,;=@_]", api.URI{Scheme: "http", Host: "a", Path: "/[!$&'()*+,;=@_]"}},
		// Queries: the first ? alone begins one, and a ? with nothing behind is none.
		{"http://a?", api.URI{Scheme: "http", Host: "a"}},
		{"http://a/?", api.URI{Scheme: "http", Host: "a", Path: "/"}},
		{"http://a?b", api.URI{Scheme: "http", Host: "a", Query: "b"}},
		{"http://a??", api.URI{Scheme: "http", Host: "a", Query: "?"}},
		{"http://a?/", api.URI{Scheme: "http", Host: "a", Query: "/"}},
		{"http://a?b/c://d", api.URI{Scheme: "http", Host: "a", Query: "b/c://d"}},
		{"http://a/b?c/d?e", api.URI{Scheme: "http", Host: "a", Path: "/b", Query: "c/d?e"}},
		{"http://a?B=C&%", api.URI{Scheme: "http", Host: "a", Query: "B=C&%"}},
	} {
		wantParse(t, x.s, x.want, api.OK)
	}
}

// P3.1: what is no URI.
func TestParseWrongForm(t *testing.T) {
	for _, s := range []string{
		"", "a", "/", "/a", "?", "http", "https", "http:", "http:/", "http://", "https://", "http:a", "http:/a", "http//a", "://", "://a", "//a",
		"ftp://a", "httpss://a", "htt://a", "HTTP://a", "Http://a", "httpS://a", " http://a", "xhttp://a", "http ://a", "?http://a", "/http://a",
		"https", "http?://a", "http/://a", "http:://a", "http//://a", "a://http://a",
		"http:///a", "http:///", "http://?", "http://?a", "http://?a/b", "http:///a?b", "http:////a",
		"http://A", "http://aB/c", "http://a_b", "http://a%62", "http://a@b", "http://a,b", "http://[a]", "http://a!", "http://a;b/c", "http://a&b?c", "http://a=b",
		"http://a b", "http://a/b c", "http://a?b c", "http://a ", " ", "http://a\n", "http://a/\x00", "http://a?\x7f", "http://\xc3\xa9", "http://a/\xc3\xa9", "http://a?\xff",
		"http://a#", "http://a#b", "http://a/#b", "http://a?b#c", "http://a/b#c?d", "http://a?b{",
	} {
		wantParse(t, s, api.URI{}, api.ErrForm)
	}
}

// P3.1: every byte, in the scheme, the host, the path and the query.
func TestParseBytes(t *testing.T) {
	check := func(s string, u api.URI, ok bool) {
		if ok {
			wantParse(t, s, u, api.OK)
		} else {
			wantParse(t, s, api.URI{}, api.ErrForm)
		}
	}
	for i := range 256 {
		c := string([]byte{byte(i)})
		inHost := strings.Contains("abcdefghijklmnopqrstuvwxyz0123456789-.:", c)
		anywhere := i >= 33 && i <= 126 && !strings.Contains("#\"<>\\^`{|}", c)
		check(c+"http://a", api.URI{}, false)
		check("http"+c+"://a", api.URI{Scheme: "https", Host: "a"}, c == "s")
		check("http://"+c, api.URI{Scheme: "http", Host: c}, inHost)
		if c != "/" && c != "?" {
			check("http://a"+c+"b", api.URI{Scheme: "http", Host: "a" + c + "b"}, inHost)
		}
		if c != "?" {
			check("http://a/"+c, api.URI{Scheme: "http", Host: "a", Path: "/" + c}, anywhere)
			check("https://a/b"+c+"c", api.URI{Scheme: "https", Host: "a", Path: "/b" + c + "c"}, anywhere)
		}
		check("http://a?"+c, api.URI{Scheme: "http", Host: "a", Query: c}, anywhere)
		check("https://a/?b"+c+"c", api.URI{Scheme: "https", Host: "a", Path: "/", Query: "b" + c + "c"}, anywhere)
	}
}

// P3.1: MaxText bytes are no error, one more is, and that ahead of all else that is wrong.
func TestParseLarge(t *testing.T) {
	long := func(front string, n int) string { return front + strings.Repeat("a", n-len(front)) }
	wantParse(t, long("http://", api.MaxText), api.URI{Scheme: "http", Host: strings.Repeat("a", api.MaxText-7)}, api.OK)
	wantParse(t, long("http://h/", api.MaxText), api.URI{Scheme: "http", Host: "h", Path: long("/", api.MaxText-8)}, api.OK)
	wantParse(t, long("http://h?", api.MaxText), api.URI{Scheme: "http", Host: "h", Query: long("", api.MaxText-9)}, api.OK)
	for _, front := range []string{"http://", "http://h/", "http://h?", "", "ftp://", "http:///", "http://A", "#", "\xff"} {
		wantParse(t, long(front, api.MaxText+1), api.URI{}, api.ErrLarge)
	}
	for _, front := range []string{"", "ftp://", "http:///", "http://A", "http://h#", "http://h/\xff"} {
		wantParse(t, long(front, api.MaxText), api.URI{}, api.ErrForm)
	}
	wantParse(t, long("http://h/", api.MaxText-1)+"#", api.URI{}, api.ErrForm)
}

// P3.1: Parse of every short text behind a scheme, and of every short scheme, told by a pattern of the whole.
func TestParseEach(t *testing.T) {
	whole := regexp.MustCompile(`^(https?)://([a-z0-9.:-]+)(/[^?]*)?(\?(.*))?$`)
	other := regexp.MustCompile("[^!-~]|[#\"<>\\\\^`{|}]")
	check := func(s string) {
		parts := whole.FindStringSubmatch(s)
		if parts == nil || other.MatchString(s) {
			wantParse(t, s, api.URI{}, api.ErrForm)
			return
		}
		u := api.URI{Scheme: parts[1], Host: parts[2], Path: parts[3], Query: parts[5]}
		wantParse(t, s, u, api.OK)
		if got, want := uri.Print(u), strings.TrimSuffix(s, "?"); u.Query == "" && got != want || u.Query != "" && got != s {
			t.Errorf("Print of the parts of %q: %q", s, got)
		}
	}
	short.Texts("a/?:A#%", 5, func(s string) {
		check(s)
		check("http://" + s)
		check("https://" + s)
	})
	short.Texts("htps:/", 5, func(s string) {
		check(s + "://a")
		check("http" + s + "a")
	})
}

// P3.1: Print of any parts, as they stand.
func TestPrint(t *testing.T) {
	for _, x := range []struct {
		u    api.URI
		want string
	}{
		{api.URI{}, "://"},
		{api.URI{Scheme: "http", Host: "a"}, "http://a"},
		{api.URI{Scheme: "https", Host: "a.b:80", Path: "/c/d", Query: "e=f?g"}, "https://a.b:80/c/d?e=f?g"},
		{api.URI{Scheme: "http", Host: "a", Path: "/"}, "http://a/"},
		{api.URI{Scheme: "http", Host: "a", Query: "b"}, "http://a?b"},
		{api.URI{Scheme: "http", Host: "a", Query: "?"}, "http://a??"},
		// Print checks nothing.
		{api.URI{Query: "q"}, "://?q"},
		{api.URI{Scheme: "FTP", Host: "A B", Path: "c", Query: "#\xff"}, "FTP://A Bc?#\xff"},
		{api.URI{Scheme: "http", Host: strings.Repeat("a", 2*api.MaxText)}, "http://" + strings.Repeat("a", 2*api.MaxText)},
	} {
		if got := uri.Print(x.u); got != x.want {
			t.Errorf("Print(%q): %q; want %q", x.u, got, x.want)
		}
	}
}

// P3.1: With of no pair, of one and of more, with and without a ? in s.
func TestWith(t *testing.T) {
	kv, odd, empty := api.Pair{Key: "k", Value: "v"}, api.Pair{Key: "a&=", Value: "b ?#"}, api.Pair{}
	for _, x := range []struct {
		s    string
		list []api.Pair
		want string
	}{
		{"https://a/b?c", []api.Pair{kv}, "https://a/b?c&k=v"},
		{"https://a/b", []api.Pair{kv}, "https://a/b?k=v"},
		{"https://a", []api.Pair{kv, odd, kv}, "https://a?k=v&a%26%3D=b%20%3F%23&k=v"},
		{"https://a?b", []api.Pair{odd, kv}, "https://a?b&a%26%3D=b%20%3F%23&k=v"},
		{"https://a", []api.Pair{empty}, "https://a?="},
		{"https://a?b", []api.Pair{empty, empty}, "https://a?b&=&="},
		// Any ? counts, wherever it stands and whatever is behind it.
		{"https://a?", []api.Pair{kv}, "https://a?&k=v"},
		{"https://a?b&", []api.Pair{kv}, "https://a?b&&k=v"},
		{"https://a??", []api.Pair{kv}, "https://a??&k=v"},
		{"?", []api.Pair{kv}, "?&k=v"},
		{"?a", []api.Pair{kv}, "?a&k=v"},
		// A quoted ? is none, nor is an & one.
		{"https://a/%3F", []api.Pair{kv}, "https://a/%3F?k=v"},
		{"https://a/b&c", []api.Pair{kv}, "https://a/b&c?k=v"},
		// s is any text.
		{"", []api.Pair{kv}, "?k=v"},
		{"\xff #", []api.Pair{kv}, "\xff #?k=v"},
		{"", nil, ""},
		{"x", nil, "x"},
		{"x", []api.Pair{}, "x"},
		{"https://a?", nil, "https://a?"},
		{"https://a?b", nil, "https://a?b"},
	} {
		if got := uri.With(x.s, x.list...); got != x.want {
			t.Errorf("With(%q, %q): %q; want %q", x.s, x.list, got, x.want)
		}
	}
	if got := uri.With("https://a"); got != "https://a" {
		t.Errorf("With of no pair: %q", got)
	}
	if got := uri.With("https://a", kv, odd); got != "https://a?k=v&a%26%3D=b%20%3F%23" {
		t.Errorf("With of two: %q", got)
	}
}

// P3.1: With knows no limit, and what it adds to a URI without a query is the whole of its query.
func TestWithParse(t *testing.T) {
	list := []api.Pair{{Key: "\x00", Value: "\xff"}, {Key: "?", Value: "#"}, {Key: "a", Value: "{}"}}
	u, e := uri.Parse(uri.With("https://a/b", list...))
	if got, _ := pairs.Parse(u.Query); e != api.OK || u.Path != "/b" || !slices.Equal(got, list) {
		t.Errorf("With, then Parse: %q, %d", u, e)
	}
	many := slices.Repeat([]api.Pair{{Key: "k", Value: "v"}}, api.MaxText)
	if got, want := uri.With("https://a", many...), "https://a?"+strings.Repeat("&k=v", api.MaxText)[1:]; got != want {
		t.Errorf("With of many: %d bytes; want %d", len(got), len(want))
	}
}

// R4: With does not change the list that it is given, or its spare room.
func TestMemory(t *testing.T) {
	whole := []api.Pair{{Key: "a", Value: " "}, {Key: "b", Value: "?"}, {Key: "spare", Value: "room"}}
	kept := slices.Clone(whole)
	uri.With("https://a", whole[:2]...)
	uri.With("https://a?b", whole[:0]...)
	if !slices.Equal(whole, kept) {
		t.Errorf("a list that was handed in is %q", whole)
	}
}
