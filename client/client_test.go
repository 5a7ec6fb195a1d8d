package client_test

import (
	"fmt"
	"math/rand"
	"reflect"
	"regexp"
	"slices"
	"strconv"
	"strings"
	"testing"

	"exequatur/api"
	"exequatur/client"
	"exequatur/short"
)

// conf answers a setup that is good.
func conf() api.Config {
	return api.Config{
		Issuer: "https://b",
		Key:    api.Key{ID: "k", Secret: "own"},
		Clients: []api.Client{
			{ID: "app", Secret: "s1", Redirects: []string{"https://app/cb", "http://app:80/cb?x=1"}},
			{ID: "open", Redirects: []string{"https://open"}},
		},
		Conns: []api.Conn{
			{ID: "up", Issuer: "https://up", Client: "me", Auth: "https://up/auth", Secret: "ks", Open: true, Rules: "set mail email"},
			{ID: "app", Issuer: "i", Client: "c", Auth: "http://x/?", Secret: "s"},
		},
	}
}

// told answers what a value has in it, cut short.
func told(v any) string {
	return fmt.Sprintf("%.400q", fmt.Sprintf("%+v", v))
}

// Another program's reading of what a setup has.
var (
	plainURI    = regexp.MustCompile(`^https?://[a-z0-9.:-]+(/[^"#<>\\^{|}` + "`" + `\x00- \x7f-\xff?]*)?(\?[^"#<>\\^{|}` + "`" + `\x00- \x7f-\xff]*)?$`)
	plainIssuer = regexp.MustCompile(`^https?://[a-z0-9.:-]+$`)
	plainWord   = `[A-Za-z0-9_-]{1,32}`
	plainRule   = regexp.MustCompile(`^(?:(set|text) (` + plainWord + `) ` + plainWord +
		`|(join|only) (` + plainWord + `) ` + plainWord + ` ` + plainWord +
		`|need ` + plainWord + ` ` + plainWord + `)$`)
	plainOwn = regexp.MustCompile(`^(iss|sub|aud|exp|iat|nonce|use|fam)$`)
)

// latin answers s with a rune for each byte, so that a regular expression looks at bytes.
func latin(s string) string {
	b := make([]rune, len(s))
	for i := range len(s) {
		b[i] = rune(s[i])
	}
	return string(b)
}

func plainRules(s string) bool {
	if s == "" {
		return true
	}
	parts := strings.Split(s, ";")
	for _, part := range parts {
		m := plainRule.FindStringSubmatch(latin(part))
		if m == nil || plainOwn.MatchString(m[2]) || plainOwn.MatchString(m[4]) {
			return false
		}
	}
	return len(parts) <= 64
}

// plainTexts answers all texts of a value, whatever it is made of.
func plainTexts(v reflect.Value) []string {
	var list []string
	switch v.Kind() {
	case reflect.String:
		return []string{v.String()}
	case reflect.Struct:
		for i := range v.NumField() {
			list = append(list, plainTexts(v.Field(i))...)
		}
	case reflect.Slice:
		for i := range v.Len() {
			list = append(list, plainTexts(v.Index(i))...)
		}
	}
	return list
}

// plainGood reads a setup as another program does.
func plainGood(c api.Config) bool {
	for _, s := range plainTexts(reflect.ValueOf(c)) {
		if len(s) > 256 {
			return false
		}
	}
	ok := plainIssuer.MatchString(latin(c.Issuer)) && c.Key.ID != "" && c.Key.Secret != "" && len(c.Clients) < 9 && len(c.Conns) < 9
	for i, x := range c.Clients {
		ok = ok && x.ID != "" && len(x.Redirects) != 0 && len(x.Redirects) < 65
		for _, y := range c.Clients[:i] {
			ok = ok && x.ID != y.ID
		}
		for _, s := range x.Redirects {
			ok = ok && plainURI.MatchString(latin(s))
		}
	}
	for i, x := range c.Conns {
		for _, y := range c.Conns[:i] {
			ok = ok && x.ID != y.ID
		}
		ok = ok && x.ID != "" && x.Issuer != "" && x.Client != "" && x.Secret != "" && plainURI.MatchString(latin(x.Auth)) && plainRules(x.Rules)
	}
	return ok
}

func wantGood(t *testing.T, what string, c api.Config, want bool) {
	t.Helper()
	if got := client.Good(c); got != want {
		t.Errorf("%s: Good(%s): %v", what, told(c), got)
	}
	if plain := plainGood(c); plain != want {
		t.Errorf("%s: another program's Good(%s): %v", what, told(c), plain)
	}
}

// spoiled is one thing that a setup has otherwise.
type spoiled struct {
	what  string
	spoil func(c *api.Config)
}

func wantEach(t *testing.T, want bool, list []spoiled) {
	t.Helper()
	for _, x := range list {
		c := conf()
		x.spoil(&c)
		wantGood(t, x.what, c, want)
	}
}

// P16.1: a setup is good, with as little as it may have too.
func TestGood(t *testing.T) {
	wantGood(t, "as it is", conf(), true)
	wantGood(t, "least", api.Config{Issuer: "http://b", Key: api.Key{ID: "k", Secret: "s"}}, true)
	wantGood(t, "none", api.Config{}, false)
	wantEach(t, true, []spoiled{
		{"no clients", func(c *api.Config) { c.Clients = nil }},
		{"empty clients", func(c *api.Config) { c.Clients = []api.Client{} }},
		{"no connectors", func(c *api.Config) { c.Conns = nil }},
		{"empty connectors", func(c *api.Config) { c.Conns = []api.Conn{} }},
		{"no secret of a client", func(c *api.Config) { c.Clients[0].Secret = "" }},
		{"a client like a connector", func(c *api.Config) { c.Clients[0].ID = "up" }},
		{"one client's redirect twice", func(c *api.Config) { c.Clients[0].Redirects[1] = c.Clients[0].Redirects[0] }},
		{"two clients' redirect", func(c *api.Config) { c.Clients[1].Redirects = c.Clients[0].Redirects }},
		{"clients like but for ID", func(c *api.Config) { c.Clients[1] = c.Clients[0]; c.Clients[1].ID = "App" }},
		{"connectors like but for ID", func(c *api.Config) { c.Conns[1] = c.Conns[0]; c.Conns[1].ID = "up " }},
		{"any bytes", func(c *api.Config) {
			for _, s := range []*string{&c.Key.ID, &c.Key.Secret, &c.Clients[0].ID, &c.Clients[0].Secret, &c.Conns[0].ID, &c.Conns[0].Issuer, &c.Conns[0].Client, &c.Conns[0].Secret} {
				*s = "\x00\n;\xff"
			}
		}},
		{"not open", func(c *api.Config) { c.Conns[0].Open = false }},
		{"no rules", func(c *api.Config) { c.Conns[0].Rules = "" }},
		{"many rules", func(c *api.Config) { c.Conns[0].Rules = "set a b;text c d;join e f g;need iss i;only h i j" }},
	})
}

// P16.1: Issuer is a URI without path, query and ?.
func TestIssuer(t *testing.T) {
	for _, x := range []struct {
		issuer string
		want   bool
	}{
		{"https://b", true}, {"http://b", true}, {"https://b:443", true}, {"https://a-b.c", true}, {"https://:", true},
		{"", false}, {"b", false}, {"https", false}, {"https:", false}, {"https:/", false}, {"https://", false}, {"https:///", false}, {"https://?", false},
		{"https://b/", false}, {"https://b/x", false}, {"https://b?", false}, {"https://b?x", false}, {"https://b?x=1", false},
		{"https://b/?", false}, {"https://b/?x", false}, {"https://b??", false}, {"https://b?/", false},
		{"https://B", false}, {"HTTPS://b", false}, {"Https://b", false}, {"ftp://b", false}, {"https://b#", false}, {"https://b#x", false},
		{" https://b", false}, {"https://b ", false}, {"https://b\n", false}, {"https://b\x00", false}, {"https://u@b", false}, {"https://é", false},
		{"https://b//", false}, {"https://b\\", false}, {"https://https://b", false},
	} {
		c := conf()
		c.Issuer = x.issuer
		wantGood(t, "issuer", c, x.want)
	}
	short.Texts("a/?:#", 5, func(s string) {
		c := conf()
		c.Issuer = "http:/" + s
		if client.Good(c) != plainIssuer.MatchString(c.Issuer) {
			t.Errorf("issuer %q: %v", c.Issuer, client.Good(c))
		}
	})
}

// P16.1: each byte of an issuer, a redirect, a connector's URI, and of rules.
func TestBytes(t *testing.T) {
	for b := range 256 {
		s := string([]byte{byte(b)})
		for _, x := range []spoiled{
			{"issuer", func(c *api.Config) { c.Issuer += s }},
			{"issuer's scheme", func(c *api.Config) { c.Issuer = s + c.Issuer[1:] }},
			{"redirect's host", func(c *api.Config) { c.Clients[1].Redirects[0] += s }},
			{"redirect's path", func(c *api.Config) { c.Clients[0].Redirects[0] += s }},
			{"redirect's query", func(c *api.Config) { c.Clients[0].Redirects[1] += s }},
			{"auth", func(c *api.Config) { c.Conns[0].Auth += s }},
			{"auth's query", func(c *api.Config) { c.Conns[1].Auth += s }},
			{"rules", func(c *api.Config) { c.Conns[0].Rules += s }},
			{"rules alone", func(c *api.Config) { c.Conns[1].Rules += s }},
		} {
			c := conf()
			x.spoil(&c)
			if got, want := client.Good(c), plainGood(c); got != want {
				t.Errorf("%s with %q: %v", x.what, s, got)
			}
		}
	}
}

// P16.1: what lacks something, or has what it may not, is not good, wherever it stands.
func TestSpoiled(t *testing.T) {
	wantEach(t, false, []spoiled{
		{"key's ID", func(c *api.Config) { c.Key.ID = "" }},
		{"key's secret", func(c *api.Config) { c.Key.Secret = "" }},
		{"key", func(c *api.Config) { c.Key = api.Key{} }},
		{"same client", func(c *api.Config) { c.Clients = append(c.Clients, c.Clients[0]) }},
		{"same last client", func(c *api.Config) { c.Clients = append(c.Clients, c.Clients[1]) }},
		{"same client ID", func(c *api.Config) { c.Clients[1].ID = "app" }},
		{"same connector", func(c *api.Config) { c.Conns = append(c.Conns, c.Conns[0]) }},
		{"same last connector", func(c *api.Config) { c.Conns = append(c.Conns, c.Conns[1]) }},
		{"same connector ID", func(c *api.Config) { c.Conns[1].ID = "up" }},
	})
	for i := range 2 {
		wantEach(t, false, []spoiled{
			{"client's ID", func(c *api.Config) { c.Clients[i].ID = "" }},
			{"empty client", func(c *api.Config) { c.Clients[i] = api.Client{} }},
			{"no redirects", func(c *api.Config) { c.Clients[i].Redirects = nil }},
			{"empty redirects", func(c *api.Config) { c.Clients[i].Redirects = []string{} }},
			{"an empty redirect", func(c *api.Config) { c.Clients[i].Redirects[0] = "" }},
			{"an empty last redirect", func(c *api.Config) { c.Clients[i].Redirects = append(c.Clients[i].Redirects, "") }},
			{"a redirect that is no URI", func(c *api.Config) { c.Clients[i].Redirects[0] = "app" }},
			{"a last redirect that is no URI", func(c *api.Config) { c.Clients[i].Redirects = append(c.Clients[i].Redirects, "https://A") }},
			{"a redirect with a #", func(c *api.Config) { c.Clients[i].Redirects[0] += "#x" }},
			{"connector's ID", func(c *api.Config) { c.Conns[i].ID = "" }},
			{"empty connector", func(c *api.Config) { c.Conns[i] = api.Conn{} }},
			{"connector's issuer", func(c *api.Config) { c.Conns[i].Issuer = "" }},
			{"connector's client", func(c *api.Config) { c.Conns[i].Client = "" }},
			{"connector's secret", func(c *api.Config) { c.Conns[i].Secret = "" }},
			{"no auth", func(c *api.Config) { c.Conns[i].Auth = "" }},
			{"auth that is no URI", func(c *api.Config) { c.Conns[i].Auth = "up" }},
			{"auth with another scheme", func(c *api.Config) { c.Conns[i].Auth = "ws://up" }},
			{"rules that are none", func(c *api.Config) { c.Conns[i].Rules = "x" }},
			{"a rule too many words", func(c *api.Config) { c.Conns[i].Rules = "set a b c" }},
			{"an own claim", func(c *api.Config) { c.Conns[i].Rules = "set sub b" }},
			{"a last rule that is none", func(c *api.Config) { c.Conns[i].Rules = "set a b;" }},
			{"a blank", func(c *api.Config) { c.Conns[i].Rules = " " }},
		})
	}
}

// texts answers the place of each text of a setup, so that a text can be put there; front is what keeps it good.
func texts(c *api.Config) map[string]struct {
	at    *string
	front string
} {
	type place = struct {
		at    *string
		front string
	}
	list := map[string]place{
		"issuer": {&c.Issuer, "https://b"}, "key": {&c.Key.ID, "k"}, "key's secret": {&c.Key.Secret, "s"},
	}
	for i := range c.Clients {
		x := &c.Clients[i]
		front := "client " + strconv.Itoa(i)
		list[front+" ID"] = place{&x.ID, x.ID}
		list[front+" secret"] = place{&x.Secret, x.Secret}
		for j := range x.Redirects {
			list[front+" redirect "+strconv.Itoa(j)] = place{&x.Redirects[j], x.Redirects[j]}
		}
	}
	for i := range c.Conns {
		x := &c.Conns[i]
		front := "connector " + strconv.Itoa(i)
		list[front+" ID"] = place{&x.ID, x.ID}
		list[front+" issuer"] = place{&x.Issuer, x.Issuer}
		list[front+" client"] = place{&x.Client, x.Client}
		list[front+" auth"] = place{&x.Auth, x.Auth}
		list[front+" secret"] = place{&x.Secret, x.Secret}
		// The last word has from 1 to 32 bytes, so that these are rules at 257 bytes as well, and only too long.
		list[front+" rules"] = place{&x.Rules, strings.Repeat("set a b;", 28) + "set a "}
	}
	return list
}

// P16.1: no text has more than 256 bytes, whichever it is.
func TestLongTexts(t *testing.T) {
	c := conf()
	if n, all := len(texts(&c)), len(plainTexts(reflect.ValueOf(c))); n != all {
		t.Fatalf("%d texts; want all %d", n, all)
	}
	for what := range texts(&c) {
		for _, n := range []int{255, 256, 257, 258, 4095, 4096, 4097, 1 << 16} {
			c := conf()
			x := texts(&c)[what]
			*x.at = x.front + strings.Repeat("z", n-len(x.front))
			wantGood(t, what+" of "+strconv.Itoa(n), c, n <= 256)
		}
	}
}

// many answers n clients and connectors with unlike IDs.
func many(n int) ([]api.Client, []api.Conn) {
	var clients []api.Client
	var conns []api.Conn
	for i := range n {
		x, y := conf().Clients[0], conf().Conns[0]
		x.ID, y.ID = "id"+strconv.Itoa(i), "id"+strconv.Itoa(i)
		clients, conns = append(clients, x), append(conns, y)
	}
	return clients, conns
}

// P16.1: at most MaxClients clients, MaxConns connectors, MaxItems redirects; no two of the most are like.
func TestMost(t *testing.T) {
	for _, n := range []int{0, 1, 2, 7, 8, 9, 10, 63, 64, 65, 100} {
		clients, conns := many(n)
		c := conf()
		c.Clients = clients
		wantGood(t, strconv.Itoa(n)+" clients", c, n <= 8)
		c = conf()
		c.Conns = conns
		wantGood(t, strconv.Itoa(n)+" connectors", c, n <= 8)
		c.Clients = clients
		wantGood(t, strconv.Itoa(n)+" of both", c, n <= 8)
		c = conf()
		c.Clients[1].Redirects = nil
		for i := range n {
			c.Clients[1].Redirects = append(c.Clients[1].Redirects, "http://a/"+strconv.Itoa(i))
		}
		wantGood(t, strconv.Itoa(n)+" redirects", c, n >= 1 && n <= 64)
	}
	for i := range 8 {
		for j := range 8 {
			c := conf()
			c.Clients, _ = many(8)
			c.Clients[i].ID = c.Clients[j].ID
			wantGood(t, "two of the clients", c, i == j)
			c = conf()
			_, c.Conns = many(8)
			c.Conns[i].ID = c.Conns[j].ID
			wantGood(t, "two of the connectors", c, i == j)
		}
	}
	for i := range 64 {
		c := conf()
		c.Clients[0].Redirects = strings.Split(strings.Repeat("https://a ", 63)+"https://a", " ")
		wantGood(t, "64 redirects", c, true)
		c.Clients[0].Redirects[i] = "https:/a"
		wantGood(t, "one of 64 redirects", c, false)
	}
}

// P16.1: IDs are unlike if a byte is, whatever it is.
func TestUnlike(t *testing.T) {
	var list []string
	short.Texts("a\x00", 3, func(s string) { list = append(list, s) })
	for _, a := range list {
		for _, b := range list {
			c := conf()
			c.Clients[0].ID, c.Clients[1].ID = a, b
			wantGood(t, "clients", c, a != "" && b != "" && a != b)
			c = conf()
			c.Conns[0].ID, c.Conns[1].ID = a, b
			wantGood(t, "connectors", c, a != "" && b != "" && a != b)
		}
	}
}

// sameClient tells whether two clients are; nil and empty lists are the same.
func sameClient(a, b api.Client) bool {
	return a.ID == b.ID && a.Secret == b.Secret && slices.Equal(a.Redirects, b.Redirects)
}

// wantFound holds what is found by an ID against going through one by one.
func wantFound(t *testing.T, c api.Config, id string) {
	t.Helper()
	var wantClient api.Client
	var wantConn api.Conn
	clientOK, connOK := false, false
	for i := len(c.Clients) - 1; i >= 0; i-- {
		if c.Clients[i].ID == id {
			wantClient, clientOK = c.Clients[i], true
		}
	}
	for i := len(c.Conns) - 1; i >= 0; i-- {
		if c.Conns[i].ID == id {
			wantConn, connOK = c.Conns[i], true
		}
	}
	if got, ok := client.Client(c, id); !sameClient(got, wantClient) || ok != clientOK {
		t.Errorf("Client(%s, %q): %s, %v; want %s, %v", told(c), id, told(got), ok, told(wantClient), clientOK)
	}
	if got, ok := client.Conn(c, id); got != wantConn || ok != connOK {
		t.Errorf("Conn(%s, %q): %s, %v; want %s, %v", told(c), id, told(got), ok, told(wantConn), connOK)
	}
	for _, secret := range []string{"", "s", "s1", "S1", "s1 ", wantClient.Secret, wantClient.Secret + "x"} {
		want := clientOK && wantClient.Secret == secret && secret != ""
		if got := client.Auth(c, id, secret); got != want {
			t.Errorf("Auth(%s, %q, %q): %v", told(c), id, secret, got)
		}
	}
}

// P16.1: Client and Conn are the first with that ID, whatever the others are, and whether or not the setup is good.
func TestFirst(t *testing.T) {
	for _, id := range []string{"", "app", "open", "up", "ap", "appl", "APP", "app\x00", "\xff", "s1", "k"} {
		wantFound(t, conf(), id)
		wantFound(t, api.Config{}, id)
		wantFound(t, api.Config{Clients: []api.Client{}, Conns: []api.Conn{}}, id)
	}
	if got, ok := client.Client(conf(), "app"); !ok || got.Secret != "s1" || len(got.Redirects) != 2 || got.Redirects[1] != "http://app:80/cb?x=1" {
		t.Errorf("Client: %s, %v", told(got), ok)
	}
	if got, ok := client.Conn(conf(), "up"); !ok || got != conf().Conns[0] {
		t.Errorf("Conn: %s, %v", told(got), ok)
	}
	c := api.Config{
		Clients: []api.Client{{ID: "x", Secret: "s"}, {ID: "a", Secret: "s1"}, {ID: "a", Secret: "s2"}, {}, {Secret: "s"}, {ID: "e"}, {ID: "e", Secret: "s"}},
		Conns:   []api.Conn{{ID: "x"}, {ID: "a", Issuer: "1"}, {ID: "a", Issuer: "2"}, {Issuer: "3"}, {Issuer: "4"}},
	}
	for _, id := range []string{"", "a", "x", "e", "s", "s1"} {
		wantFound(t, c, id)
	}
	if client.Auth(c, "a", "s2") || client.Auth(c, "e", "s") || client.Auth(c, "", "s") {
		t.Error("Auth by a client that is not the first")
	}
	clients, conns := many(1000)
	c = api.Config{Clients: clients, Conns: conns}
	for _, id := range []string{"id0", "id999", "id1000"} {
		wantFound(t, c, id)
	}
}

// P16.1: Auth asks for the client's secret, all of it; none has an empty one.
func TestAuth(t *testing.T) {
	for _, x := range []struct {
		id, secret string
		want       bool
	}{
		{"app", "s1", true},
		{"app", "s", false}, {"app", "s11", false}, {"app", "s2", false}, {"app", "1s", false}, {"app", "S1", false}, {"app", "s1\x00", false}, {"app", " s1", false}, {"app", "", false},
		{"open", "", false}, {"open", "s1", false}, {"open", "s", false}, {"open", "\x00", false},
		{"x", "s1", false}, {"", "s1", false}, {"", "", false}, {"x", "", false}, {"up", "ks", false}, {"k", "own", false},
	} {
		if got := client.Auth(conf(), x.id, x.secret); got != x.want {
			t.Errorf("Auth(%q, %q): %v", x.id, x.secret, got)
		}
	}
	short.Texts("a\x00\xff", 3, func(own string) {
		c := api.Config{Clients: []api.Client{{ID: "a", Secret: own}}}
		short.Texts("a\x00\xff", 3, func(secret string) {
			if got := client.Auth(c, "a", secret); got != (own == secret && own != "") {
				t.Errorf("Auth of %q by %q: %v", own, secret, got)
			}
		})
	})
	long := strings.Repeat("s", 5000)
	c := api.Config{Clients: []api.Client{{ID: "a", Secret: long}}}
	if !client.Auth(c, "a", long) || client.Auth(c, "a", long[1:]) || client.Auth(c, "a", long[1:]+"t") || client.Auth(c, "a", "t"+long[1:]) {
		t.Error("Auth by a long secret")
	}
}

// P16.1: Redirect: is it one of the client's, byte for byte?
func TestRedirect(t *testing.T) {
	c := conf().Clients[0]
	for _, x := range []struct {
		uri  string
		want bool
	}{
		{"https://app/cb", true}, {"http://app:80/cb?x=1", true},
		{"https://app/cb/", false}, {"https://app/c", false}, {"https://app/cb?", false}, {"https://app/cB", false}, {"https://app/%63b", false},
		{"http://app/cb", false}, {"https://app:443/cb", false}, {"HTTPS://app/cb", false}, {"http://app/cb?x=1", false}, {"http://app:80/cb", false},
		{"https://app/./cb", false}, {"https://app//cb", false}, {" https://app/cb", false}, {"https://app/cb\x00", false}, {"https://app/cb\n", false},
		{"", false}, {"app", false}, {"https://open", false}, {"https://app/cbhttp://app:80/cb?x=1", false},
	} {
		if got := client.Redirect(c, x.uri); got != x.want {
			t.Errorf("Redirect(%q): %v", x.uri, got)
		}
	}
	for i := range c.Redirects[0] {
		for b := range 256 {
			s := []byte(c.Redirects[0])
			s[i] = byte(b)
			if got := client.Redirect(c, string(s)); got != (string(s) == c.Redirects[0]) {
				t.Errorf("Redirect(%q): %v", s, got)
			}
		}
	}
	if client.Redirect(api.Client{}, "") || client.Redirect(api.Client{Redirects: []string{}}, "") {
		t.Error("Redirect of a client without any")
	}
	if c := (api.Client{Redirects: []string{"no URI", "", "\xff"}}); !client.Redirect(c, "") || !client.Redirect(c, "\xff") || client.Redirect(c, "no") {
		t.Error("Redirect of a client that is not good")
	}
}

// random answers a text that a setup may have somewhere, or not.
func random(r *rand.Rand) string {
	list := []string{"", "a", "b", "app", "https://b", "https://b/", "http://b?", "https://b/c?d", "https://B", "set a b", "set a b;need c d", "set iss b", "x", "\xff", strings.Repeat("a", 256), strings.Repeat("a", 257), "https://" + strings.Repeat("a", 248), "https://" + strings.Repeat("a", 249)}
	return list[r.Intn(len(list))]
}

// P16.1: setups that are spoiled anywhere, or not, are held against another program's reading.
func TestRandom(t *testing.T) {
	r := rand.New(rand.NewSource(16))
	good := 0
	for range 20000 {
		c := conf()
		for range r.Intn(3) {
			places := []*string{&c.Issuer, &c.Key.ID, &c.Key.Secret}
			for i := range c.Clients {
				places = append(places, &c.Clients[i].ID, &c.Clients[i].Secret, &c.Clients[i].Redirects[0])
			}
			for i := range c.Conns {
				x := &c.Conns[i]
				places = append(places, &x.ID, &x.Issuer, &x.Client, &x.Auth, &x.Secret, &x.Rules)
			}
			*places[r.Intn(len(places))] = random(r)
		}
		if r.Intn(4) == 0 {
			c.Clients = append(c.Clients, api.Client{ID: random(r), Redirects: []string{random(r)}})
		}
		want := plainGood(c)
		if client.Good(c) != want {
			t.Errorf("Good(%s): %v", told(c), !want)
		}
		if want {
			good++
		}
		wantFound(t, c, random(r))
	}
	if good < 2000 || good > 18000 {
		t.Errorf("%d of 20000 are good: the cases are too much alike", good)
	}
}

// R4: what is handed in is not changed, spare room of its lists included; what is answered shares no list.
func TestMemory(t *testing.T) {
	c := conf()
	room := make([]string, 4)
	copy(room, []string{"https://app/cb", "https://b", "spare", "room"})
	c.Clients[0].Redirects = room[:2]
	clients := append(c.Clients, api.Client{ID: "spare"})
	conns := append(c.Conns, api.Conn{ID: "room"})
	c.Clients, c.Conns = clients[:2], conns[:2]
	was := fmt.Sprintf("%+v %+v %+v %+v", c, clients, conns, room)
	client.Good(c)
	got, _ := client.Client(c, "app")
	other, _ := client.Client(c, "app")
	client.Conn(c, "app")
	client.Auth(c, "app", "s1")
	client.Redirect(c.Clients[0], "x")
	got.Redirects[0] = "changed"
	got.Redirects = append(got.Redirects[:1], "changed", "changed")
	if other.Redirects[0] != "https://app/cb" || other.Redirects[1] != "https://b" {
		t.Errorf("two answers share a list: %s", told(other))
	}
	if now := fmt.Sprintf("%+v %+v %+v %+v", c, clients, conns, room); now != was {
		t.Errorf("changed: %q; was %q", now, was)
	}
	if x, ok := client.Client(c, "spare"); ok || !reflect.DeepEqual(x, api.Client{}) {
		t.Errorf("a client out of the spare room: %s", told(x))
	}
	if x, ok := client.Conn(c, "room"); ok || x != (api.Conn{}) {
		t.Errorf("a connector out of the spare room: %s", told(x))
	}
	if client.Redirect(c.Clients[0], "spare") || client.Auth(c, "spare", "") {
		t.Error("read out of the spare room")
	}
}
