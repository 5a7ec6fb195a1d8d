package jwk_test

import (
	"encoding/base64"
	outside "encoding/json"
	"fmt"
	"regexp"
	"slices"
	"strings"
	"testing"

	"exequatur/api"
	"exequatur/jwk"
	"exequatur/short"
)

// all has every byte once, in order.
func all() string {
	var b [256]byte
	for i := range b {
		b[i] = byte(i)
	}
	return string(b[:])
}

// quoted answers s as the document's JSON has it.
func quoted(s string) string {
	var out strings.Builder
	for i := range len(s) {
		switch c := s[i]; {
		case c == '"' || c == '\\':
			out.WriteString(`\` + s[i:i+1])
		case c < 32:
			fmt.Fprintf(&out, `\u%04x`, c)
		default:
			out.WriteByte(c)
		}
	}
	return `"` + out.String() + `"`
}

// item answers the text of a key, k being its k as it stands.
func item(id, k string) string {
	return `{"kty":"oct","alg":"HS256","kid":` + quoted(id) + `,"k":"` + k + `"}`
}

// set answers the text in which these items stand.
func set(items ...string) string {
	return `{"keys":[` + strings.Join(items, ",") + `]}`
}

// plain answers the text that Print should, of all the keys.
func plain(keys []api.Key) string {
	var items []string
	for _, k := range keys {
		items = append(items, item(k.ID, base64.RawURLEncoding.EncodeToString([]byte(k.Secret))))
	}
	return set(items...)
}

const oneItem = `\{"kty":"oct","alg":"HS256","kid":"(?:[^"\\\x00-\x1f]|\\["\\]|\\u00[01][0-9a-f])*","k":"([A-Za-z0-9_-]*)"\}`

var (
	oneSet  = regexp.MustCompile(`^\{"keys":\[(?:` + oneItem + `(?:,` + oneItem + `)*)?\]\}$`)
	eachKey = regexp.MustCompile(oneItem)
)

// isSet tells whether s is a set's text, by a pattern and by another program's base64url.
func isSet(s string) bool {
	if !oneSet.MatchString(s) {
		return false
	}
	for _, m := range eachKey.FindAllStringSubmatch(s, -1) {
		b, err := base64.RawURLEncoding.DecodeString(m[1])
		if err != nil || base64.RawURLEncoding.EncodeToString(b) != m[1] {
			return false
		}
	}
	return true
}

func wantParse(t *testing.T, s string, want []api.Key, wantE api.Errno) {
	t.Helper()
	if got, e := jwk.Parse(s); !slices.Equal(got, want) || e != wantE {
		t.Errorf("Parse(%.200q): %.200q, %d; want %.200q, %d", s, got, e, want, wantE)
	}
}

// wantText fails if the keys and s are not each other's.
func wantText(t *testing.T, keys []api.Key, s string) {
	t.Helper()
	if got := jwk.Print(keys); got != s {
		t.Errorf("Print(%.200q): %.200q; want %.200q", keys, got, s)
	}
	wantParse(t, s, keys, api.OK)
}

// many answers n keys, no two the same, with short texts.
func many(n int) []api.Key {
	var keys []api.Key
	for i := range n {
		keys = append(keys, api.Key{ID: fmt.Sprint(i), Secret: fmt.Sprint(n - i)})
	}
	return keys
}

// P7.1: sets as they stand, both ways.
func TestKnown(t *testing.T) {
	wantText(t, nil, `{"keys":[]}`)
	wantText(t, []api.Key{}, `{"keys":[]}`)
	wantText(t, []api.Key{{}}, `{"keys":[{"kty":"oct","alg":"HS256","kid":"","k":""}]}`)
	wantText(t, []api.Key{{ID: "a", Secret: "\xff"}, {ID: "b"}}, `{"keys":[{"kty":"oct","alg":"HS256","kid":"a","k":"_w"},{"kty":"oct","alg":"HS256","kid":"b","k":""}]}`)
	wantText(t, []api.Key{{ID: "b", Secret: "foobar"}, {Secret: "\xfb\xff"}, {ID: "a b"}}, `{"keys":[{"kty":"oct","alg":"HS256","kid":"b","k":"Zm9vYmFy"},{"kty":"oct","alg":"HS256","kid":"","k":"-_8"},{"kty":"oct","alg":"HS256","kid":"a b","k":""}]}`)
	wantText(t, []api.Key{{ID: "a\"b\\c\n/\x00\x7f", Secret: "\x00"}}, `{"keys":[{"kty":"oct","alg":"HS256","kid":"a\"b\\c\u000a/\u0000`+"\x7f"+`","k":"AA"}]}`)
	wantText(t, []api.Key{{ID: "é\xff", Secret: "é"}}, `{"keys":[{"kty":"oct","alg":"HS256","kid":"é`+"\xff"+`","k":"w6k"}]}`)
}

// P7.1: any ID, any Secret, alone and among others; keys that are the same, or have the same ID, all stand.
func TestAny(t *testing.T) {
	texts := []string{"", "a", "ab", "abc", "abcd", " ", "kid", `","k":"`, `"}]}`, `{"keys":[]}`, "[", "\\", `\u0041`, "é", "\xff\xfe", "null", strings.Repeat("a", 500), all()}
	for i := range 256 {
		texts = append(texts, string([]byte{byte(i)}))
	}
	for _, x := range texts {
		for _, keys := range [][]api.Key{
			{{ID: x}}, {{Secret: x}}, {{ID: x, Secret: x}},
			{{ID: x, Secret: "1"}, {ID: x, Secret: "2"}}, {{ID: "a", Secret: x}, {ID: "b", Secret: x}}, {{ID: x, Secret: x}, {ID: x, Secret: x}},
			{{ID: "z", Secret: "1"}, {ID: x, Secret: "2"}, {ID: "a", Secret: x}},
		} {
			wantText(t, keys, plain(keys))
		}
	}
	short.Texts("\x00a\"\\\xff", 3, func(s string) {
		keys := []api.Key{{ID: s, Secret: "s"}, {ID: "i", Secret: s}}
		wantText(t, keys, plain(keys))
	})
}

// P7.1: what Print answers is JSON to another program, too.
func TestPrintOutside(t *testing.T) {
	var got struct{ Keys []map[string]string }
	if err := outside.Unmarshal([]byte(jwk.Print([]api.Key{{ID: "a\"\n\\é", Secret: "s"}, {}})), &got); err != nil {
		t.Fatal(err)
	}
	want := []map[string]string{{"kty": "oct", "alg": "HS256", "kid": "a\"\n\\é", "k": "cw"}, {"kty": "oct", "alg": "HS256", "kid": "", "k": ""}}
	if fmt.Sprint(got.Keys) != fmt.Sprint(want) {
		t.Errorf("another program reads %q; want %q", got.Keys, want)
	}
}

// P7.1: of more than MaxItems keys the first ones; a text with more is no Print of anything.
func TestMany(t *testing.T) {
	for _, n := range []int{1, 2, 10, api.MaxItems - 1, api.MaxItems} {
		wantText(t, many(n), plain(many(n)))
	}
	for _, n := range []int{api.MaxItems + 1, api.MaxItems + 2, 2 * api.MaxItems, 1000} {
		keys := many(n)
		if got, want := jwk.Print(keys), plain(keys[:api.MaxItems]); got != want {
			t.Errorf("Print of %d keys: %.200q; want %.200q", n, got, want)
		}
	}
	// So short that no other limit is met.
	for n, wantE := range map[int]api.Errno{api.MaxItems: api.OK, api.MaxItems + 1: api.ErrForm, api.MaxItems + 2: api.ErrForm} {
		s := plain(make([]api.Key, n))
		if len(s) > api.MaxText {
			t.Fatalf("%d keys have %d bytes", n, len(s))
		}
		if got, e := jwk.Parse(s); e != wantE || e == api.OK && len(got) != n || e != api.OK && got != nil {
			t.Errorf("Parse of %d keys: %d keys, %d; want %d", n, len(got), e, wantE)
		}
	}
}

// P7.1: MaxText bytes are no error, one more is, ahead of all else that is wrong; Print knows no such limit.
func TestLarge(t *testing.T) {
	room := api.MaxText - len(plain([]api.Key{{}}))
	for n, wantE := range map[int]api.Errno{room - 1: api.OK, room: api.OK, room + 1: api.ErrLarge, 2 * room: api.ErrLarge} {
		keys := []api.Key{{ID: strings.Repeat("a", n)}}
		s := jwk.Print(keys)
		if s != plain(keys) {
			t.Errorf("Print of an ID of %d bytes: %.200q", n, s)
		}
		if wantE != api.OK {
			keys = nil
		}
		wantParse(t, s, keys, wantE)
	}
	great := []api.Key{{ID: strings.Repeat(all(), 20), Secret: strings.Repeat(all(), 50)}, {ID: "k", Secret: strings.Repeat("s", api.MaxText)}}
	if got := jwk.Print(great); got != plain(great) {
		t.Errorf("Print of great keys: %d bytes", len(got))
	}
	for _, x := range []string{"[", "x", " ", "\xff", `{"keys":[`} {
		wantParse(t, strings.Repeat(x, api.MaxText)[:api.MaxText], nil, api.ErrForm)
		wantParse(t, strings.Repeat(x, api.MaxText+1)[:api.MaxText+1], nil, api.ErrLarge)
	}
}

// P7.1: chapter 5's error of what is too deep, wherever it is; the same text, one less deep, has ErrForm.
func TestDeep(t *testing.T) {
	nest := func(n int) string { return strings.Repeat("[", n) + strings.Repeat("]", n) }
	for _, x := range []struct {
		levels      int
		front, back string
	}{
		{0, "", ""},
		{1, "[", "]"},
		{1, `{"keys":`, `}`},
		{1, `{"keys":[],"more":`, `}`},
		{2, `{"keys":[`, `]}`},
		{2, `{"keys":[` + item("a", "_w") + `,`, `]}`},
		{3, `{"keys":[{"kty":"oct","alg":"HS256","kid":`, `,"k":""}]}`},
	} {
		wantParse(t, x.front+nest(api.MaxDeep-x.levels)+x.back, nil, api.ErrForm)
		wantParse(t, x.front+nest(api.MaxDeep-x.levels+1)+x.back, nil, api.ErrDeep)
		wantParse(t, x.front+nest(100)+x.back, nil, api.ErrDeep)
		wantParse(t, x.front+nest(100)+x.back+"x", nil, api.ErrForm)
	}
}

// P7.1: what is no value's text, and what is a good one, but no set's.
func TestForm(t *testing.T) {
	a := item("a", "_w")
	for _, s := range []string{
		"", " ", "x", "null", "true", "0", `""`, `"keys"`, "[]", "{}", `[` + a + `]`, a, `{"keys"}`, `{"keys":}`, `{"keys":[}`, `{"keys":[]`, `"keys":[]`, `{"keys":[],}`, `{"keys":[,]}`, `{keys:[]}`, `{'keys':[]}`,
		// Other than a list, another key, more keys, less, a list in it.
		`{"keys":{}}`, `{"keys":null}`, `{"keys":""}`, `{"keys":0}`, `{"keys":true}`, `{"keys":[1]}`, `{"keys":[null]}`, `{"keys":[""]}`, `{"keys":[[]]}`, `{"keys":[{}]}`, `{"keys":` + a + `}`, `{"keys":{"a":` + a + `}}`, `{"keys":[[` + a + `]]}`,
		`{"Keys":[]}`, `{"key":[]}`, `{"":[]}`, `{"keys ":[]}`, `{"keys":[],"more":0}`, `{"more":0,"keys":[]}`, `{"keys":[],"keys":[]}`, `{"keys":[` + a + `],"more":[]}`, `[{"keys":[]}]`, `{"keys":{"keys":[]}}`,
		// Other ways to write the same.
		` {"keys":[]}`, `{"keys":[]} `, `{"keys":[]}` + "\n", `{ "keys":[]}`, `{"keys": []}`, `{"keys":[ ]}`, `{"\u006beys":[]}`, "\ufeff" + `{"keys":[]}`, `{"keys":[]}x`, `{"keys":[]}{"keys":[]}`, `{"keys":[]}` + "\x00",
		set(a, ""), set("", a), set(a, "", a), set(a) + set(a), set(a + a), set(" " + a), set(a + " "),
		// An item that is no key's, alone, ahead of one, and behind one.
		set(a, "1"), set("{}", a), set(a, "[]"), set(a, "null"), set(a, set(a)),
	} {
		wantParse(t, s, nil, api.ErrForm)
	}
	for _, s := range []string{
		// Another word.
		`{"kty":"RSA","alg":"HS256","kid":"a","k":"_w"}`, `{"kty":"OCT","alg":"HS256","kid":"a","k":"_w"}`, `{"kty":"","alg":"HS256","kid":"a","k":"_w"}`, `{"kty":"oct ","alg":"HS256","kid":"a","k":"_w"}`, `{"kty":"oct","alg":"HS512","kid":"a","k":"_w"}`, `{"kty":"oct","alg":"none","kid":"a","k":"_w"}`, `{"kty":"oct","alg":"hs256","kid":"a","k":"_w"}`, `{"kty":"oct","alg":"","kid":"a","k":"_w"}`,
		// Another key.
		`{"Kty":"oct","alg":"HS256","kid":"a","k":"_w"}`, `{"kty":"oct","ALG":"HS256","kid":"a","k":"_w"}`, `{"kty":"oct","alg":"HS256","KID":"a","k":"_w"}`, `{"kty":"oct","alg":"HS256","kid":"a","K":"_w"}`, `{"kty":"oct","alg":"HS256","id":"a","k":"_w"}`, `{"kty":"oct","alg":"HS256","kid":"a","":"_w"}`,
		// Another kind.
		`{"kty":null,"alg":"HS256","kid":"a","k":"_w"}`, `{"kty":"oct","alg":["HS256"],"kid":"a","k":"_w"}`, `{"kty":"oct","alg":"HS256","kid":null,"k":"_w"}`, `{"kty":"oct","alg":"HS256","kid":0,"k":"_w"}`, `{"kty":"oct","alg":"HS256","kid":["a"],"k":"_w"}`, `{"kty":"oct","alg":"HS256","kid":{},"k":"_w"}`, `{"kty":"oct","alg":"HS256","kid":"a","k":null}`, `{"kty":"oct","alg":"HS256","kid":"a","k":0}`, `{"kty":"oct","alg":"HS256","kid":"a","k":[]}`, `{"kty":"oct","alg":"HS256","kid":"a","k":["_w"]}`, `{"kty":"oct","alg":"HS256","kid":"a","k":false}`,
		// Less.
		`{}`, `{"alg":"HS256","kid":"a","k":"_w"}`, `{"kty":"oct","kid":"a","k":"_w"}`, `{"kty":"oct","alg":"HS256","k":"_w"}`, `{"kty":"oct","alg":"HS256","kid":"a"}`, `{"kid":"a","k":"_w"}`, `{"kty":"oct"}`,
		// More, or twice.
		`{"kty":"oct","alg":"HS256","kid":"a","k":"_w","use":"sig"}`, `{"use":"sig","kty":"oct","alg":"HS256","kid":"a","k":"_w"}`, `{"kty":"oct","alg":"HS256","use":"sig","kid":"a","k":"_w"}`, `{"kty":"oct","alg":"HS256","kid":"a","k":"_w","k":"_w"}`, `{"kty":"oct","kty":"oct","alg":"HS256","kid":"a","k":"_w"}`, `{"kty":"oct","alg":"HS256","kid":"a","kid":"b","k":"_w"}`, `{"kty":"oct","alg":"HS256","kid":"a","k":"_w","":null}`,
		// Another order.
		`{"alg":"HS256","kty":"oct","kid":"a","k":"_w"}`, `{"kty":"oct","kid":"a","alg":"HS256","k":"_w"}`, `{"kty":"oct","alg":"HS256","k":"_w","kid":"a"}`, `{"k":"_w","kid":"a","alg":"HS256","kty":"oct"}`, `{"kid":"a","kty":"oct","alg":"HS256","k":"_w"}`,
		// Other ways to write the same, and other kinds of the whole.
		`{"kty":"oct","alg":"HS256","kid":"\u0061","k":"_w"}`, `{"kty":"oct","alg":"HS256","kid":"\/","k":"_w"}`, `{"kty":"oct","alg":"HS256","kid":"\n","k":"_w"}`, `{"kty":"oct","alg":"HS256","kid":"\u001F","k":"_w"}`, `{"kty":"oct","alg":"HS256","kid":"` + "\n" + `","k":"_w"}`, `{"kty":"oct","alg":"HS256","kid":"a","k":"\u005fw"}`, `{"kty":"oct", "alg":"HS256","kid":"a","k":"_w"}`, `{"kty":"oct","alg":"HS256","kid":"a","k":"_w" }`, `["kty","oct","alg","HS256","kid","a","k","_w"]`, `["oct","HS256","a","_w"]`, `null`, `"a"`, `[]`,
	} {
		wantParse(t, set(s), nil, api.ErrForm)
		wantParse(t, set(a, s), nil, api.ErrForm)
		wantParse(t, set(s, a), nil, api.ErrForm)
	}
}

// P7.1: k is an Encode of something, and in no other way.
func TestEncode(t *testing.T) {
	for _, k := range []string{"=", "A", "B", "AB", "A_", "AAB", "AAAAA", "+w", "/w", "_w==", "_w=", " ", "_w ", " _w", "_ w", "_x", "__9", "é", "\xff", "!", ".", "_w.", "_w._w", `\"`, `\\`, `\u0000`, `\u000a`} {
		wantParse(t, set(item("a", k)), nil, api.ErrForm)
		wantParse(t, set(item("b", "_w"), item("a", k)), nil, api.ErrForm)
		wantParse(t, set(item("a", k), item("b", "_w")), nil, api.ErrForm)
	}
	short.Texts("AQgw-_=+", 4, func(k string) {
		s := set(item("a", k))
		if !isSet(s) {
			wantParse(t, s, nil, api.ErrForm)
			return
		}
		b, _ := base64.RawURLEncoding.DecodeString(k)
		wantText(t, []api.Key{{ID: "a", Secret: string(b)}}, s)
	})
}

// P7.1: a set's text with a byte that is another one, that is gone, or that is more: it is another set's, or none's.
func TestEach(t *testing.T) {
	s := set(item("a\n", "Zm8"), item(`"`, ""))
	right := 0
	check := func(x string) {
		if !isSet(x) {
			wantParse(t, x, nil, api.ErrForm)
			return
		}
		right++
		got, e := jwk.Parse(x)
		if e != api.OK || plain(got) != x {
			t.Errorf("Parse(%q): %q, %d", x, got, e)
		}
	}
	for i := range len(s) {
		check(s[:i])
		check(s[i+1:])
		check(s[:i] + s[i+1:])
		for c := range 256 {
			check(s[:i] + string([]byte{byte(c)}) + s[i+1:])
			check(s[:i] + string([]byte{byte(c)}) + s[i:])
		}
	}
	check(s)
	if right < 500 {
		t.Errorf("the pattern took %d texts alone", right)
	}
	short.Texts(`{}[]":,k`, 5, func(x string) { wantParse(t, x, nil, api.ErrForm) })
}

// P7.1: what is cut from a set's text at either end.
func TestCut(t *testing.T) {
	s := plain(many(3))
	for i := range len(s) {
		wantParse(t, s[:i], nil, api.ErrForm)
		wantParse(t, s[i+1:], nil, api.ErrForm)
	}
}

// R4, R5: keys that are handed in, and their spare room, stay as they are; an answer is its own, and the same again.
func TestMemory(t *testing.T) {
	whole := many(api.MaxItems + 5)
	kept := slices.Clone(whole)
	first := jwk.Print(whole[:2])
	if again := jwk.Print(whole[:2]); again != first {
		t.Errorf("Print, again: %q; %q before", again, first)
	}
	jwk.Print(whole)
	if !slices.Equal(whole, kept) {
		t.Error("Print changed the keys that were handed in")
	}
	a, _ := jwk.Parse(first)
	b, _ := jwk.Parse(first)
	a[0].ID, a[1].Secret = "x", "y"
	_ = append(a[:0], api.Key{ID: "z"})
	if !slices.Equal(b, whole[:2]) {
		t.Errorf("an answer changed with another: %q", b)
	}
	wantParse(t, first, whole[:2], api.OK)
	whole[0].ID = "other"
	if got, want := jwk.Print(whole[:1]), plain(whole[:1]); got != want {
		t.Errorf("Print of a key that was changed: %q; want %q", got, want)
	}
}

// R3: beside an error no keys.
func TestBeside(t *testing.T) {
	a := item("a", "_w")
	for _, s := range []string{"", set(a, "1"), set(a, item("b", "A")), set(a) + "x", strings.Repeat(set(a), 100), set(a, "[[[[[[[[[]]]]]]]]]")} {
		if got, e := jwk.Parse(s); got != nil || e == api.OK {
			t.Errorf("Parse(%.80q): %q, %d", s, got, e)
		}
	}
}
