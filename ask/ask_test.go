package ask_test

import (
	"fmt"
	"maps"
	"math/rand"
	"net/url"
	"regexp"
	"slices"
	"strconv"
	"strings"
	"testing"

	"exequatur/api"
	"exequatur/ask"
	"exequatur/short"
)

// challenge is that of RFC 7636, appendix B.
const challenge = "E9Melhoa2OwvFrEMTJguCHaoeK1t8URWbuGJSstw-cM"

// conf answers a setup that is good.
func conf() api.Config {
	return api.Config{
		Issuer: "https://b",
		Key:    api.Key{ID: "k", Secret: "own"},
		Clients: []api.Client{
			{ID: "app", Secret: "s1", Redirects: []string{"https://app/cb", "http://app:80/cb?x=1&y=%41+"}},
			{ID: "open", Redirects: []string{"https://open"}},
			{ID: "\x00&=\xff", Secret: "s1", Redirects: []string{"https://open", "https://any"}},
		},
		Conns: []api.Conn{{ID: "up", Issuer: "https://up", Client: "me", Auth: "https://up/auth", Secret: "ks", Open: true, Rules: "set mail email"}},
	}
}

// fields are what a query tells by its keys.
type fields map[string]string

// good answers what is no problem.
func good() fields {
	return fields{
		"client_id": "app", "redirect_uri": "https://app/cb", "response_type": "code", "scope": "a openid",
		"code_challenge_method": "S256", "code_challenge": challenge, "state": "st", "nonce": "n",
	}
}

// wanted is what good asks for.
var wanted = ask.Ask{Client: "app", Redirect: "https://app/cb", State: "st", Nonce: "n", Scope: "a openid", Challenge: challenge}

// but answers these fields with one otherwise.
func (f fields) but(key, value string) fields {
	out := maps.Clone(f)
	out[key] = value
	return out
}

// without answers these fields but for some.
func (f fields) without(keys ...string) fields {
	out := maps.Clone(f)
	for _, key := range keys {
		delete(out, key)
	}
	return out
}

// query answers the form that tells these fields.
func (f fields) query() string {
	var parts []string
	for _, key := range slices.Sorted(maps.Keys(f)) {
		parts = append(parts, url.QueryEscape(key)+"="+url.QueryEscape(f[key]))
	}
	return strings.Join(parts, "&")
}

// cut answers v as text, cut short.
func cut(v any) string {
	return fmt.Sprintf("%.600q", fmt.Sprintf("%+v", v))
}

// plainForm reads a form as another program does; false, if it is none, or has a key twice.
func plainForm(query string) (fields, bool) {
	out, pairs := fields{}, 0
	for _, part := range strings.Split(query, "&") {
		if part == "" {
			continue
		}
		k, v, _ := strings.Cut(part, "=")
		key, err1 := url.QueryUnescape(k)
		value, err2 := url.QueryUnescape(v)
		if err1 != nil || err2 != nil {
			return nil, false
		}
		pairs++
		out[key] = value
	}
	return out, len(query) <= 4096 && pairs <= 64 && pairs == len(out)
}

var (
	plainChallenge = regexp.MustCompile(`^[A-Za-z0-9_-]{42}[AEIMQUYcgkosw048]$`)
	plainScope     = regexp.MustCompile(`^(?s:.* )?openid(?s: .*)?$`)
)

// latin answers s with a rune for each byte, so that a pattern looks at bytes.
func latin(s string) string {
	out := make([]rune, len(s))
	for i := range len(s) {
		out[i] = rune(s[i])
	}
	return string(out)
}

// plainCheck checks as another program does: all that is wrong, last first, so that the first stays.
func plainCheck(c api.Config, query string) (a ask.Ask, problem string, back bool) {
	f, ok := plainForm(query)
	if !ok {
		return ask.Ask{}, "invalid_request", false
	}
	var own *api.Client
	for i := len(c.Clients) - 1; i >= 0; i-- {
		if c.Clients[i].ID == f["client_id"] {
			own = &c.Clients[i]
		}
	}
	if own == nil {
		return ask.Ask{}, "invalid_client", false
	}
	known := false
	for _, s := range own.Redirects {
		known = known || s == f["redirect_uri"]
	}
	if !known {
		return ask.Ask{}, "invalid_request", false
	}
	if len(f["state"]) > 256 || len(f["nonce"]) > 256 || len(f["scope"]) > 256 {
		problem = "invalid_request"
	}
	if !plainScope.MatchString(latin(f["scope"])) {
		problem = "invalid_scope"
	}
	if f["code_challenge_method"] != "S256" || !plainChallenge.MatchString(latin(f["code_challenge"])) {
		problem = "invalid_request"
	}
	if f["response_type"] != "code" {
		problem = "unsupported_response_type"
	}
	a = ask.Ask{Client: f["client_id"], Redirect: f["redirect_uri"], State: f["state"]}
	if problem == "" {
		a.Nonce, a.Scope, a.Challenge = f["nonce"], f["scope"], f["code_challenge"]
	} else if len(a.State) > 256 {
		a.State = ""
	}
	return a, problem, problem != ""
}

// want holds Check against what is wanted, and another program's against it, too.
func want(t *testing.T, c api.Config, query string, a ask.Ask, problem string, back bool) {
	t.Helper()
	if got, p, b := ask.Check(c, query); got != a || p != problem || b != back {
		t.Errorf("Check(%s): %s, %q, %v; want %s, %q, %v", cut(query), cut(got), p, b, cut(a), problem, back)
	}
	if got, p, b := plainCheck(c, query); got != a || p != problem || b != back {
		t.Errorf("another program's Check(%s): %s, %q, %v; want %s, %q, %v", cut(query), cut(got), p, b, cut(a), problem, back)
	}
}

// wantPlain holds Check against another program's.
func wantPlain(t *testing.T, c api.Config, query string) {
	t.Helper()
	a, problem, back := plainCheck(c, query)
	if got, p, b := ask.Check(c, query); got != a || p != problem || b != back {
		t.Errorf("Check(%s): %s, %q, %v; want %s, %q, %v", cut(query), cut(got), p, b, cut(a), problem, back)
	}
}

// wantGood holds fields that are no problem against what they ask for.
func wantGood(t *testing.T, f fields, a ask.Ask) {
	t.Helper()
	want(t, conf(), f.query(), a, "", false)
}

// wantBack holds fields that are a problem for the client against it.
func wantBack(t *testing.T, f fields, problem string) {
	t.Helper()
	want(t, conf(), f.query(), ask.Ask{Client: f["client_id"], Redirect: f["redirect_uri"], State: f["state"]}, problem, true)
}

// wantHere holds a query that is a problem for the browser against it.
func wantHere(t *testing.T, query, problem string) {
	t.Helper()
	want(t, conf(), query, ask.Ask{}, problem, false)
}

// P17.1: all that is told is answered, as it is meant, in whatever order it is told.
func TestGood(t *testing.T) {
	wantGood(t, good(), wanted)
	wantGood(t, good().without("state", "nonce").but("scope", "openid"), ask.Ask{Client: "app", Redirect: "https://app/cb", Scope: "openid", Challenge: challenge})
	wantGood(t, good().but("state", "").but("nonce", ""), ask.Ask{Client: "app", Redirect: "https://app/cb", Scope: "a openid", Challenge: challenge})
	bytes := "\x00\n &=+%?#\xff\xc3\xa9"
	wantGood(t, good().but("state", bytes).but("nonce", bytes+"n").but("scope", bytes+" openid"), ask.Ask{Client: "app", Redirect: "https://app/cb", State: bytes, Nonce: bytes + "n", Scope: bytes + " openid", Challenge: challenge})
	uri := conf().Clients[0].Redirects[1]
	wantGood(t, good().but("redirect_uri", uri), ask.Ask{Client: "app", Redirect: uri, State: "st", Nonce: "n", Scope: "a openid", Challenge: challenge})
	id := conf().Clients[2].ID
	wantGood(t, good().but("client_id", id).but("redirect_uri", "https://any"), ask.Ask{Client: id, Redirect: "https://any", State: "st", Nonce: "n", Scope: "a openid", Challenge: challenge})
	plain := "client_id=app&redirect_uri=https://app/cb&response_type=code&code_challenge_method=S256&code_challenge=" + challenge + "&scope=a+openid&state=st&nonce=n"
	want(t, conf(), plain, wanted, "", false)
	want(t, conf(), "&&"+strings.ReplaceAll(plain, "&", "&&&")+"&", wanted, "", false)
	want(t, conf(), "%63lient%5Fid=%61pp&redirect%5furi=https%3a%2F%2fapp%2Fcb&response_type=c%6fde&code_challenge_method=S%3256&code_challenge="+challenge+"&scope=a%20openi%64&state=s%74&nonce=%6E", wanted, "", false)
	parts := strings.Split(plain, "&")
	for range parts {
		parts = append(parts[1:], parts[0])
		want(t, conf(), strings.Join(parts, "&"), wanted, "", false)
		back := slices.Clone(parts)
		slices.Reverse(back)
		want(t, conf(), strings.Join(back, "&"), wanted, "", false)
	}
}

// P17.1: what else is told, by other keys, counts for nothing.
func TestOthers(t *testing.T) {
	for _, key := range []string{"", "x", "Client_id", "client_id ", "client", "redirect", "redirect_url", "State", "states", "challenge", "code", "prompt", "client_secret", "error", "\x00", "state\x00"} {
		for _, value := range []string{"", "y", "up", strings.Repeat("z", 300)} {
			wantGood(t, good().but(key, value), wanted)
		}
	}
	want(t, conf(), good().query()+"&x", wanted, "", false)
	want(t, conf(), "=&"+good().query(), wanted, "", false)
	// A key is one as a whole: what is told by another is not told.
	for key, problem := range map[string]string{"response_type": "unsupported_response_type", "code_challenge_method": "invalid_request", "code_challenge": "invalid_request", "scope": "invalid_scope"} {
		for _, other := range []string{key + " ", " " + key, key[1:], key + "s", strings.ToUpper(key), key + "\x00"} {
			wantBack(t, good().without(key).but(other, good()[key]), problem)
		}
	}
}

// P17.1: invalid_request, told to the browser, if the query is no form.
func TestNoForm(t *testing.T) {
	q := good().query()
	for _, x := range []string{"%", "%4", "%4g", "%g4", "x=%", "%=x", "x=%%41", "x=% 41", "x=%4&1", "x=a%"} {
		for _, s := range []string{x, q + "&" + x, x + "&" + q, q + "&&" + x + "&", "client_id=app&" + x} {
			wantHere(t, s, "invalid_request")
		}
	}
	wantHere(t, strings.Replace(q, "state=st", "state=%", 1), "invalid_request")
	wantHere(t, strings.Replace(q, "state=st", "state=%s", 1), "invalid_request")
	wantHere(t, strings.Replace(q, "client_id", "client%id", 1), "invalid_request")
	wantHere(t, q+"%", "invalid_request")
}

// P17.1: MaxText bytes and MaxItems pairs are a form, more of one of them are none.
func TestMost(t *testing.T) {
	q := good().query()
	for _, n := range []int{4094, 4095, 4096} {
		want(t, conf(), q+"&x="+strings.Repeat("y", n-len(q)-3), wanted, "", false)
		want(t, conf(), q+strings.Repeat("&", n-len(q)), wanted, "", false)
	}
	for _, n := range []int{4097, 4098, 1 << 16} {
		wantHere(t, q+"&x="+strings.Repeat("y", n-len(q)-3), "invalid_request")
		wantHere(t, q+strings.Repeat("&", n-len(q)), "invalid_request")
		wantHere(t, strings.Repeat("&", n), "invalid_request")
	}
	for n := 1; n < 70; n++ {
		var more []string
		for i := range n {
			more = append(more, "x"+strconv.Itoa(i))
		}
		s := q + "&" + strings.Join(more, "&")
		if n+len(good()) <= 64 {
			want(t, conf(), s, wanted, "", false)
		} else {
			wantHere(t, s, "invalid_request")
		}
		if n <= 64 {
			wantHere(t, strings.Join(more, "&"), "invalid_client")
		} else {
			wantHere(t, strings.Join(more, "&"), "invalid_request")
		}
	}
}

// P17.1: invalid_request, told to the browser, if a key stands twice, whichever it is, and whatever is told by it.
func TestTwice(t *testing.T) {
	q := good().query()
	for key, value := range good() {
		for _, x := range []string{value, "", "other"} {
			again := url.QueryEscape(key) + "=" + url.QueryEscape(x)
			wantHere(t, q+"&"+again, "invalid_request")
			wantHere(t, again+"&"+q, "invalid_request")
		}
		wantHere(t, q+"&"+key, "invalid_request")
		wantHere(t, q+"&"+fmt.Sprintf("%%%02x", key[0])+key[1:], "invalid_request")
		wantHere(t, key+"&"+key, "invalid_request")
	}
	for _, x := range []string{"x&x", "x=1&x=2", "=&=", "=1&=2", "x=1&%78=1", "x+y&x%20y", "client_id=app&x&x"} {
		wantHere(t, x, "invalid_request")
		wantHere(t, q+"&"+x, "invalid_request")
		wantHere(t, x+"&"+q, "invalid_request")
	}
	// What stands twice among values, or beside a key, is no key that does.
	wantGood(t, good().but("state", "n").but("x", "n").but("code", "n"), ask.Ask{Client: "app", Redirect: "https://app/cb", State: "n", Nonce: "n", Scope: "a openid", Challenge: challenge})
}

// P17.1: invalid_client, told to the browser, if client_id is nobody's, empty or not told.
func TestClient(t *testing.T) {
	wantHere(t, "", "invalid_client")
	wantHere(t, "&", "invalid_client")
	wantHere(t, "client_id", "invalid_client")
	wantHere(t, good().without("client_id").query(), "invalid_client")
	for _, id := range []string{"", "ap", "appl", "APP", "App", " app", "app ", "app\x00", "up", "k", "s1", "me", "https://app/cb", "\xff", "app,open", strings.Repeat("a", 300)} {
		wantHere(t, good().but("client_id", id).query(), "invalid_client")
		wantHere(t, fields{"client_id": id}.query(), "invalid_client")
	}
	for _, c := range []api.Config{{}, {Clients: []api.Client{}}, {Clients: []api.Client{{ID: "x"}}}} {
		want(t, c, good().query(), ask.Ask{}, "invalid_client", false)
		want(t, c, "", ask.Ask{}, "invalid_client", false)
	}
}

// P17.1: invalid_request, told to the browser, if redirect_uri is not that client's, byte for byte.
func TestRedirect(t *testing.T) {
	wantHere(t, "client_id=app", "invalid_request")
	wantHere(t, good().without("redirect_uri").query(), "invalid_request")
	for _, uri := range []string{"", "https://app/cb/", "https://app/c", "https://app/cb?", "https://app/cb ", " https://app/cb", "https://app/cB", "http://app/cb", "HTTPS://app/cb", "https://app/%63b", "http://app:80/cb?x=1&y=A+", "http://app:80/cb?x=1&y=%41 ", "http://app:80/cb", "https://open", "https://any", "app", "https://b", "https://app/cb\x00", "https://app/cb,http://app:80/cb"} {
		wantHere(t, good().but("redirect_uri", uri).query(), "invalid_request")
	}
	wantHere(t, good().but("client_id", "open").query(), "invalid_request")
	wantHere(t, good().but("client_id", "open").but("redirect_uri", "https://any").query(), "invalid_request")
	for i := range "https://app/cb" {
		for b := range 256 {
			s := []byte("https://app/cb")
			s[i] = byte(b)
			wantPlain(t, conf(), good().but("redirect_uri", string(s)).query())
		}
	}
	// One of the next clients with that ID has it, but the first counts.
	c := conf()
	c.Clients = append(c.Clients, api.Client{ID: "app", Redirects: []string{"https://next"}})
	want(t, c, good().but("redirect_uri", "https://next").query(), ask.Ask{}, "invalid_request", false)
	want(t, c, good().query(), wanted, "", false)
}

// P17.1: what a setup that is not good registers is as it stands there; what is not told is empty.
func TestEmpty(t *testing.T) {
	c := api.Config{Clients: []api.Client{{Redirects: []string{"", "no URI"}}, {ID: "none"}}}
	a := wanted
	a.Client, a.Redirect = "", ""
	want(t, c, "", ask.Ask{}, "unsupported_response_type", true)
	want(t, c, "client_id=&redirect_uri", ask.Ask{}, "unsupported_response_type", true)
	want(t, c, good().without("client_id", "redirect_uri").query(), a, "", false)
	want(t, c, good().but("client_id", "").but("redirect_uri", "").query(), a, "", false)
	a.Redirect = "no URI"
	want(t, c, good().without("client_id").but("redirect_uri", "no URI").query(), a, "", false)
	want(t, c, good().without("client_id").query(), ask.Ask{}, "invalid_request", false)
	want(t, c, good().but("client_id", "none").but("redirect_uri", "").query(), ask.Ask{}, "invalid_request", false)
}

// P17.1: unsupported_response_type, back, if response_type is not code.
func TestResponseType(t *testing.T) {
	wantBack(t, good().without("response_type"), "unsupported_response_type")
	wantBack(t, fields{"client_id": "app", "redirect_uri": "https://app/cb"}, "unsupported_response_type")
	for _, s := range []string{"", "token", "id_token", "code token", "code ", " code", "Code", "CODE", "cod", "codes", "none", "code\x00", "code\n", "code,code"} {
		wantBack(t, good().but("response_type", s), "unsupported_response_type")
	}
}

// P17.1: invalid_request, back, if code_challenge_method is not S256, or code_challenge can be none.
func TestChallenge(t *testing.T) {
	wantBack(t, good().without("code_challenge_method"), "invalid_request")
	wantBack(t, good().without("code_challenge"), "invalid_request")
	wantBack(t, good().without("code_challenge", "code_challenge_method"), "invalid_request")
	for _, s := range []string{"", "plain", "s256", "S256 ", " S256", "S25", "S2566", "S512", "256", "SHA256", "S256\x00", "\xff"} {
		wantBack(t, good().but("code_challenge_method", s), "invalid_request")
	}
	wantBack(t, good().but("code_challenge_method", "plain").but("code_challenge", strings.Repeat("a", 43)), "invalid_request")
	for _, s := range []string{"", "E9", challenge[1:], challenge[:42], challenge + "A", challenge + "=", challenge + "\n", " " + challenge, challenge[:42] + "N", challenge[:42] + " ", strings.ReplaceAll(challenge, "-", "+"), strings.Repeat("A", 44), strings.Repeat("=", 43)} {
		wantBack(t, good().but("code_challenge", s), "invalid_request")
	}
	for _, s := range []string{strings.Repeat("A", 43), strings.Repeat("-", 42) + "8", strings.Repeat("_", 42) + "w"} {
		a := wanted
		a.Challenge = s
		wantGood(t, good().but("code_challenge", s), a)
	}
	for i := range challenge {
		for b := range 256 {
			s := []byte(challenge)
			s[i] = byte(b)
			wantPlain(t, conf(), good().but("code_challenge", string(s)).query())
		}
	}
	for n := range 100 {
		wantPlain(t, conf(), good().but("code_challenge", strings.Repeat("A", n)).query())
	}
}

// P17.1, example 1: invalid_scope, back, if scope has no openid as a word, in words with a blank between.
func TestScope(t *testing.T) {
	wantBack(t, good().without("scope"), "invalid_scope")
	for _, s := range []string{"", " ", "a", "a b", "openi", "penid", "openidx", "xopenid", "OpenID", "open id", "openid.", "openid,a", "a,openid", "openid\ta", "a\topenid", "openid\n", "\nopenid", "a\nopenid\nb", "openid\r", "openid\x00", "openid\u00a0a", "openid+a", "a%20openid", "openidopenid", "\"openid\"", strings.Repeat("a", 3000)} {
		wantBack(t, good().but("scope", s), "invalid_scope")
	}
	for _, s := range []string{"openid", "openid a", "a openid", "a openid b", "openid openid", " openid", "openid ", "  openid  ", "a  openid", "openidx openid", "openid xopenid", "OPENID openid", "\n openid", "\xff openid \x00", "a b c d e f g openid"} {
		a := wanted
		a.Scope = s
		wantGood(t, good().but("scope", s), a)
	}
	for b := range 256 {
		for _, s := range []string{"openid%sa", "a%sopenid", "openid%s", "%sopenid", "open%sid", "a%sopenid b"} {
			wantPlain(t, conf(), good().but("scope", fmt.Sprintf(s, string([]byte{byte(b)}))).query())
		}
	}
	short.Texts(" oa\n", 5, func(s string) {
		wantPlain(t, conf(), good().but("scope", strings.ReplaceAll(s, "o", "openid")).query())
	})
}

// P17.1: invalid_request, back, if state, nonce or scope have more than 256 bytes; such a state is not told.
func TestLong(t *testing.T) {
	for _, n := range []int{1, 255, 256, 257, 258, 300, 600} {
		s := strings.Repeat("\xff", n)
		scope := "openid " + strings.Repeat("z", max(n-7, 0))
		if n <= 256 {
			a := wanted
			a.State = s
			wantGood(t, good().but("state", s), a)
			a.Nonce, a.Scope = s, scope
			wantGood(t, good().but("state", s).but("nonce", s).but("scope", scope), a)
			continue
		}
		untold := ask.Ask{Client: "app", Redirect: "https://app/cb"}
		want(t, conf(), good().but("state", s).query(), untold, "invalid_request", true)
		wantBack(t, good().but("nonce", s), "invalid_request")
		wantBack(t, good().but("scope", scope), "invalid_request")
		wantBack(t, good().but("scope", scope).without("state", "nonce"), "invalid_request")
		// A state that is too long is not told beside any problem.
		want(t, conf(), good().but("state", s).without("response_type").query(), untold, "unsupported_response_type", true)
		want(t, conf(), good().but("state", s).without("code_challenge").query(), untold, "invalid_request", true)
		want(t, conf(), good().but("state", s).without("scope").query(), untold, "invalid_scope", true)
		want(t, conf(), good().but("state", s).but("nonce", s).query(), untold, "invalid_request", true)
		// What is wrong ahead is told first.
		wantBack(t, good().but("nonce", s).but("scope", s), "invalid_scope")
		wantHere(t, good().but("state", s).but("redirect_uri", "x").query(), "invalid_request")
		wantHere(t, good().but("state", s).but("client_id", "x").query(), "invalid_client")
	}
	// Bytes count, neither runes nor what stands in the query for them.
	runes := strings.Repeat("é", 128)
	a := wanted
	a.State, a.Nonce, a.Scope = runes, runes, runes[:248]+" openid"
	wantGood(t, good().but("state", a.State).but("nonce", a.Nonce).but("scope", a.Scope), a)
	want(t, conf(), good().but("state", runes+"x").query(), ask.Ask{Client: "app", Redirect: "https://app/cb"}, "invalid_request", true)
	wantBack(t, good().but("nonce", runes+"x"), "invalid_request")
	wantBack(t, good().but("scope", runes+" openid"), "invalid_request")
	// Beside another problem a state of 256 bytes is told, whatever is too long beside it.
	s := strings.Repeat("s", 256)
	wantBack(t, good().but("state", s).but("nonce", s+"n"), "invalid_request")
	wantBack(t, good().but("state", s).but("scope", "openid "+s), "invalid_request")
	wantBack(t, good().but("state", s).without("scope"), "invalid_scope")
	wantBack(t, good().but("state", s).without("response_type"), "unsupported_response_type")
	// No bound is set to what else is told.
	wantGood(t, good().but("x", strings.Repeat("y", 1000)), wanted)
	c := conf()
	long := "https://app/" + strings.Repeat("a", 1000)
	c.Clients[0] = api.Client{ID: s + s, Redirects: []string{long}}
	want(t, c, good().but("client_id", s+s).but("redirect_uri", long).query(), ask.Ask{Client: s + s, Redirect: long, State: "st", Nonce: "n", Scope: "a openid", Challenge: challenge}, "", false)
}

// untold stands for a field that a query leaves out.
const untold = "(untold)"

// each calls f with every choice of a value for each key; an untold one is left out.
func each(keys []string, values map[string][]string, f func(fields)) {
	made := fields{}
	var at func(i int)
	at = func(i int) {
		if i == len(keys) {
			f(made)
			return
		}
		for _, v := range values[keys[i]] {
			made[keys[i]] = v
			if v == untold {
				delete(made, keys[i])
			}
			at(i + 1)
		}
		delete(made, keys[i])
	}
	at(0)
}

// P17.1: of any problems together the first is told, with its Ask.
func TestFirst(t *testing.T) {
	long := strings.Repeat("s", 257)
	values := map[string][]string{
		"client_id":             {"app", untold, "x", "open"},
		"redirect_uri":          {"https://app/cb", untold, "https://open"},
		"response_type":         {"code", untold, "token"},
		"code_challenge_method": {"S256", untold, "plain"},
		"code_challenge":        {challenge, untold, challenge[1:]},
		"scope":                 {"openid", untold, "a", "openid " + long, long},
		"state":                 {"st", untold, long},
		"nonce":                 {"n", untold, long},
	}
	c, seen := conf(), map[string]int{}
	each(slices.Sorted(maps.Keys(values)), values, func(f fields) {
		q := f.query()
		wantPlain(t, c, q)
		_, problem, back := ask.Check(c, q)
		seen[fmt.Sprint(problem, back)]++
		for _, more := range []string{"&%", "&x&x"} {
			if a, problem, back := ask.Check(c, q+more); a != (ask.Ask{}) || problem != "invalid_request" || back {
				t.Errorf("Check(%s): %s, %q, %v", cut(q+more), cut(a), problem, back)
			}
		}
	})
	if len(seen) != 6 {
		t.Errorf("not all answers were seen: %v", seen)
	}
}

// P17.1: queries of random pieces, in any order, are held against another program's reading.
func TestRandom(t *testing.T) {
	r := rand.New(rand.NewSource(17))
	some := []string{"", "x", "state=b", "nonce", "scope=openid", "%", "=", "client_id=open", "redirect_uri=https://open", "code_challenge=", "state=%7", "s%74ate=a+b", "state=" + strings.Repeat("%41", 257), strings.Repeat("y", 3800), "response_type=token", strings.Repeat("&a", 3)}
	seen := map[string]int{}
	for range 20000 {
		parts := strings.Split(good().query(), "&")
		for range r.Intn(3) {
			i := r.Intn(len(parts))
			switch r.Intn(3) {
			case 0:
				parts[i] = some[r.Intn(len(some))]
			case 1:
				parts = slices.Delete(parts, i, i+1)
			default:
				parts = append(parts, some[r.Intn(len(some))])
			}
		}
		r.Shuffle(len(parts), func(i, j int) { parts[i], parts[j] = parts[j], parts[i] })
		q := strings.Join(parts, "&")
		wantPlain(t, conf(), q)
		_, problem, back := ask.Check(conf(), q)
		seen[fmt.Sprint(problem, back)]++
	}
	if len(seen) != 6 || seen["false"] > 15000 {
		t.Errorf("the cases are too much alike: %v", seen)
	}
}

// P17.1, R1: every short text is a query.
func TestEachText(t *testing.T) {
	c := api.Config{Clients: []api.Client{{Redirects: []string{""}}, {ID: "a", Redirects: []string{"a"}}}}
	short.Texts("&=a%6", 6, func(s string) {
		wantPlain(t, c, s)
	})
	short.Texts("&i=r", 6, func(s string) {
		wantPlain(t, c, strings.NewReplacer("i", "client_id=a", "r", "redirect_uri=a").Replace(s))
	})
}

// R4: what is handed in is not changed, spare room of its lists included, nor read beyond a list's length.
func TestMemory(t *testing.T) {
	c := conf()
	room := []string{"https://app/cb", "https://spare"}
	c.Clients[0].Redirects = room[:1]
	clients := append(c.Clients, api.Client{ID: "spare", Redirects: []string{"https://app/cb"}})
	c.Clients = clients[:3]
	was := fmt.Sprintf("%+v %+v %+v", c, clients, room)
	want(t, c, good().query(), wanted, "", false)
	want(t, c, good().but("redirect_uri", "https://spare").query(), ask.Ask{}, "invalid_request", false)
	want(t, c, good().but("client_id", "spare").query(), ask.Ask{}, "invalid_client", false)
	if now := fmt.Sprintf("%+v %+v %+v", c, clients, room); now != was {
		t.Errorf("changed: %q; was %q", now, was)
	}
}

// R5: what a call answers hangs on nothing that was called before.
func TestAgain(t *testing.T) {
	for range 3 {
		wantGood(t, good(), wanted)
		wantHere(t, "%", "invalid_request")
		wantHere(t, "", "invalid_client")
		wantBack(t, good().without("scope", "state"), "invalid_scope")
		want(t, api.Config{}, good().query(), ask.Ask{}, "invalid_client", false)
	}
}
