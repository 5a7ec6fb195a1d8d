package claims_test

import (
	"fmt"
	"math"
	"slices"
	"strings"
	"testing"

	"exequatur/api"
	"exequatur/claims"
	"exequatur/json"
	"exequatur/short"
)

// all has every byte once, in order.
func all() string {
	var b [256]byte
	for i := range b {
		b[i] = byte(i)
	}
	return string(b[:])
}

// quoted answers s as the document's JSON has it.
func quoted(s string) string {
	var out strings.Builder
	for i := range len(s) {
		switch c := s[i]; {
		case c == '"' || c == '\\':
			out.WriteString(`\` + s[i:i+1])
		case c < 32:
			fmt.Fprintf(&out, `\u%04x`, c)
		default:
			out.WriteByte(c)
		}
	}
	return `"` + out.String() + `"`
}

// object answers the text of an object in which these fields stand, but for the empty ones.
func object(fields ...string) string {
	fields = slices.DeleteFunc(slices.Clone(fields), func(s string) bool { return s == "" })
	return "{" + strings.Join(fields, ",") + "}"
}

// plain answers the text of the claims that Make should answer.
func plain(iss, sub, aud, nonce string, iat, exp int) string {
	last := ""
	if nonce != "" {
		last = `"nonce":` + quoted(nonce)
	}
	return object(`"iss":`+quoted(iss), `"sub":`+quoted(sub), `"aud":`+quoted(aud), fmt.Sprintf(`"iat":%d,"exp":%d`, iat, exp), last)
}

func textOf(s string) api.Value { return api.Value{Kind: api.Text, Text: s} }
func numOf(n int) api.Value     { return api.Value{Kind: api.Num, Num: int64(n)} }

func wantMake(t *testing.T, iss, sub, aud, nonce string, iat, exp int) {
	t.Helper()
	want := api.Value{
		Kind: api.Object,
		Keys: []string{"iss", "sub", "aud", "iat", "exp"},
		List: []api.Value{textOf(iss), textOf(sub), textOf(aud), numOf(iat), numOf(exp)},
	}
	if nonce != "" {
		want.Keys = append(want.Keys, "nonce")
		want.List = append(want.List, textOf(nonce))
	}
	got := claims.Make(iss, sub, aud, nonce, iat, exp)
	if !json.Same(got, want) {
		t.Errorf("Make(%.80q, %.80q, %.80q, %.80q, %d, %d): %.300q", iss, sub, aud, nonce, iat, exp, fmt.Sprint(got))
	}
	if s := plain(iss, sub, aud, nonce, iat, exp); json.Good(want) && json.Print(got) != s {
		t.Errorf("Make, printed: %.300q; want %.300q", json.Print(got), s)
	}
}

// wantCheck fails, if Check answers another error; or, beside none, another sub, or not all of the payload; or, beside one, anything.
func wantCheck(t *testing.T, payload, iss, aud, nonce string, now int, sub string, wantE api.Errno) {
	t.Helper()
	all := payload
	if wantE != api.OK {
		sub, all = "", ""
	}
	got, v, e := claims.Check(payload, iss, aud, nonce, now)
	if got != sub || json.Print(v) != all || e != wantE || e != api.OK && !json.Same(v, api.Value{}) {
		t.Errorf("Check(%.300q, %.80q, %.80q, %.80q, %d): %.80q, %.300q, %d; want %.80q, %d", payload, iss, aud, nonce, now, got, json.Print(v), e, sub, wantE)
	}
}

// P8.1: Make, as its claims stand.
func TestMakeKnown(t *testing.T) {
	for _, x := range []struct {
		v    api.Value
		want string
	}{
		{claims.Make("i", "s", "a", "n", 5, 9), `{"iss":"i","sub":"s","aud":"a","iat":5,"exp":9,"nonce":"n"}`},
		{claims.Make("i", "s", "a", "", 5, 9), `{"iss":"i","sub":"s","aud":"a","iat":5,"exp":9}`},
		{claims.Make("", "", "", "", 0, 0), `{"iss":"","sub":"","aud":"","iat":0,"exp":0}`},
		{claims.Make("", "", "", " ", 9, -5), `{"iss":"","sub":"","aud":"","iat":9,"exp":-5,"nonce":" "}`},
		{claims.Make("https://a.b/c", "u\"\\\n", "é", "\xff", -1, 1), `{"iss":"https://a.b/c","sub":"u\"\\\u000a","aud":"é","iat":-1,"exp":1,"nonce":"` + "\xff" + `"}`},
		{claims.Make("i", "s", "a", "", -1<<53, 1<<53), `{"iss":"i","sub":"s","aud":"a","iat":-9007199254740992,"exp":9007199254740992}`},
	} {
		if got := json.Print(x.v); got != x.want {
			t.Errorf("Make: %q; want %q", got, x.want)
		}
	}
}

// P8.1: Make of any texts, at each place, also of the same ones.
func TestMakeAny(t *testing.T) {
	texts := []string{"", " ", "iss", "null", "0", `","sub":"x`, `"`, "\\", "é", "\x00", all(), strings.Repeat("a", 2*api.MaxText)}
	for i := range 256 {
		texts = append(texts, string([]byte{byte(i)}))
	}
	for _, x := range texts {
		wantMake(t, x, "s", "a", "n", 5, 9)
		wantMake(t, "i", x, "a", "n", 5, 9)
		wantMake(t, "i", "s", x, "n", 5, 9)
		wantMake(t, "i", "s", "a", x, 5, 9)
		wantMake(t, x, x, x, x, 5, 9)
		wantMake(t, x, x, x, "", 5, 9)
	}
}

// moments are some, at the edges and between.
func moments() []int {
	list := []int{0, 1, -1, 2, 9, -9, 600, 1 << 31, -1 << 31, 1<<31 - 1, 1 << 32, api.MaxClock}
	for _, n := range []int{1 << 52, 1 << 53} {
		list = append(list, n, n-1, n-2, -n, 1-n, 2-n)
	}
	return list
}

// P8.1, R1: Make of any moments, also of what is none.
func TestMakeMoments(t *testing.T) {
	ends := []int{1<<53 + 1, 1<<53 + 2, -1<<53 - 1, -1<<53 - 2, 1<<62 + 1, math.MaxInt, math.MinInt, math.MaxInt - 1, math.MinInt + 1}
	list := append(moments(), ends...)
	for _, iat := range list {
		for _, exp := range list {
			wantMake(t, "i", "s", "a", "n", iat, exp)
			wantMake(t, "i", "s", "a", "", iat, exp)
		}
	}
}

// P8.1: what Make answers, printed, is right for its own iss, aud and nonce, till its end.
func TestBoth(t *testing.T) {
	for _, x := range []string{"a", " ", "é", "\xff", "\"\\\x00", "iss", all()} {
		for _, nonce := range []string{"", "n", x} {
			s := json.Print(claims.Make(x+"1", x+"2", x+"3", nonce, 5, 9))
			wantCheck(t, s, x+"1", x+"3", nonce, 8, x+"2", api.OK)
			wantCheck(t, s, x+"1", x+"3", "", 8, x+"2", api.OK)
			wantCheck(t, s, x+"1", x+"3", nonce+"x", 8, "", api.ErrClaim)
			wantCheck(t, s, x+"1", x+"3", nonce, 9, "", api.ErrClaim)
			wantCheck(t, s, x+"1", x+"2", nonce, 8, "", api.ErrClaim)
			wantCheck(t, s, x+"3", x+"1", nonce, 8, "", api.ErrClaim)
		}
	}
}

// claim is a field as it stands (none, if it is empty), and whether it is right.
type claim struct {
	text  string
	right bool
}

// others answers the field of that name, and of every other kind and text, that is not right.
func others(name, right string) []claim {
	list := []claim{{"", false}}
	for _, s := range []string{"null", "true", "false", "0", "1", "-1", `[]`, `{}`, `["` + right + `"]`, `{"` + name + `":"` + right + `"}`, quoted(right + " "), quoted(" " + right), quoted(right + right), quoted(right + "\x00"), quoted(strings.ToUpper(right))} {
		list = append(list, claim{`"` + name + `":` + s, false})
	}
	return append(list, claim{`"` + strings.ToUpper(name) + `":"` + right + `"`, false}, claim{`"` + name + ` ":"` + right + `"`, false})
}

// P8.1: each claim, right or wrong, with each other one: all have to be right, and the nonce only if one is asked for.
func TestEachClaim(t *testing.T) {
	iss := append(others("iss", "i"), claim{`"iss":""`, false}, claim{`"iss":"i"`, true})
	aud := append(others("aud", "a"), claim{`"aud":""`, false}, claim{`"aud":"a"`, true})
	nonce := append(others("nonce", "n"), claim{`"nonce":""`, false}, claim{`"nonce":"n"`, true})
	sub := []claim{{"", false}, {`"sub":""`, false}, {`"sub":null`, false}, {`"sub":0`, false}, {`"sub":1`, false}, {`"sub":true`, false}, {`"sub":[]`, false}, {`"sub":["s"]`, false}, {`"sub":{"sub":"s"}`, false}, {`"Sub":"s"`, false}, {`"sub":"s"`, true}}
	exp := []claim{{"", false}, {`"exp":9`, false}, {`"exp":8`, false}, {`"exp":-10`, false}, {`"exp":0`, false}, {`"exp":"10"`, false}, {`"exp":null`, false}, {`"exp":true`, false}, {`"exp":[10]`, false}, {`"exp":{"exp":10}`, false}, {`"EXP":10`, false}, {`"exp":10`, true}}
	check := func(i, a, n, s, x claim) {
		text := object(i.text, s.text, a.text, `"iat":5`, x.text, n.text)
		wantE := api.ErrClaim
		if i.right && a.right && s.right && x.right {
			wantE = api.OK
		}
		wantCheck(t, text, "i", "a", "", 9, "s", wantE)
		if !n.right {
			wantE = api.ErrClaim
		}
		wantCheck(t, text, "i", "a", "n", 9, "s", wantE)
	}
	last := func(list []claim) claim { return list[len(list)-1] }
	for _, i := range iss {
		for _, a := range aud {
			for _, n := range nonce {
				check(i, a, n, last(sub), last(exp))
			}
		}
	}
	for _, s := range sub {
		for _, x := range exp {
			for _, n := range nonce {
				check(last(iss), last(aud), n, s, x)
			}
			check(iss[0], last(aud), last(nonce), s, x)
			check(last(iss), aud[0], last(nonce), s, x)
		}
	}
}

// P8.1: texts that are asked for, empty and any; an empty one is not one that lacks.
func TestAsked(t *testing.T) {
	// The only claim that an empty text leaves free is the nonce.
	wantCheck(t, `{"iss":"","sub":"s","aud":"","exp":1}`, "", "", "", 0, "s", api.OK)
	for _, s := range []string{
		`{"sub":"s","aud":"","exp":1}`, `{"iss":"","sub":"s","exp":1}`, `{"sub":"s","exp":1}`,
		`{"iss":null,"sub":"s","aud":"","exp":1}`, `{"iss":"","sub":"s","aud":[],"exp":1}`, `{"iss":0,"sub":"s","aud":0,"exp":1}`,
		`{"iss":"x","sub":"s","aud":"","exp":1}`, `{"iss":"","sub":"s","aud":"x","exp":1}`, `{"iss":"","sub":"","aud":"","exp":1}`,
	} {
		wantCheck(t, s, "", "", "", 0, "", api.ErrClaim)
	}
	texts := []string{"", "a", "A", "b", "aa", "a ", " a", "\x00", "a\x00", "\xff", "é", "e", `"`, `\`, `\u0061`, "iss", all()}
	for _, x := range texts {
		for _, y := range texts {
			wantE := api.ErrClaim
			if x == y {
				wantE = api.OK
			}
			wantCheck(t, plain(x, "s", "a", "n", 5, 9), y, "a", "n", 8, "s", wantE)
			wantCheck(t, plain("i", "s", x, "n", 5, 9), "i", y, "n", 8, "s", wantE)
			if y == "" {
				wantE = api.OK
			}
			wantCheck(t, plain("i", "s", "a", x, 5, 9), "i", "a", y, 8, "s", wantE)
		}
		if x != "" {
			wantCheck(t, plain("i", x, "a", "n", 5, 9), "i", "a", "n", 8, x, api.OK)
		}
	}
}

// P8.1: every byte of the texts that are asked for counts.
func TestBytes(t *testing.T) {
	const iss, aud, nonce = "https://issuer.example", "client-1", "nonce_2"
	s := plain(iss, "s", aud, nonce, 5, 9)
	each := func(x string, f func(x string)) {
		for i := range len(x) {
			f(x[:i])
			f(x[i+1:])
			f(x[:i] + x[i+1:])
			for c := range 256 {
				if byte(c) != x[i] {
					f(x[:i] + string([]byte{byte(c)}) + x[i+1:])
				}
			}
		}
		f(x + "x")
	}
	each(iss, func(x string) { wantCheck(t, s, x, aud, nonce, 8, "", api.ErrClaim) })
	each(aud, func(x string) { wantCheck(t, s, iss, x, nonce, 8, "", api.ErrClaim) })
	each(nonce, func(x string) {
		if x != "" {
			wantCheck(t, s, iss, aud, x, 8, "", api.ErrClaim)
		}
	})
	wantCheck(t, s, iss, aud, nonce, 8, "s", api.OK)
}

// P8.1, R1: exp is above now, wherever both are, and whatever now is.
func TestMoments(t *testing.T) {
	nows := append(moments(), 1<<53+1, 1<<53+2, 1<<53+3, -1<<53-1, -1<<53-2, -1<<53-3, 1<<62+1, -1<<62-1, math.MaxInt, math.MaxInt-1, math.MinInt, math.MinInt+1)
	for _, exp := range moments() {
		s := fmt.Sprintf(`{"iss":"i","sub":"s","aud":"a","exp":%d}`, exp)
		for _, now := range append(nows, exp-1, exp, exp+1) {
			wantE := api.ErrClaim
			if exp > now {
				wantE = api.OK
			}
			wantCheck(t, s, "i", "a", "", now, "s", wantE)
		}
	}
	// What is no number is not above anything.
	for _, exp := range []string{"", `"exp":null`, `"exp":true`, `"exp":false`, `"exp":"9"`, `"exp":[9]`, `"exp":[]`, `"exp":{"exp":9}`, `"Exp":9`, `"iat":9`} {
		for _, now := range nows {
			wantCheck(t, object(`"iss":"i","sub":"s","aud":"a"`, exp), "i", "a", "", now, "", api.ErrClaim)
		}
	}
	for _, exp := range []string{"9007199254740993", "-9007199254740993", "9223372036854775807", "18446744073709551616", "1e3", "9.5", "10.0", "+10", "010", "-0", "Infinity", "NaN", ""} {
		wantCheck(t, `{"iss":"i","sub":"s","aud":"a","exp":`+exp+`}`, "i", "a", "", math.MinInt, "", api.ErrForm)
	}
}

// P8.1: iat, and what else stands there, is not looked at; the order is free; all of it is answered.
func TestMore(t *testing.T) {
	for _, s := range []string{
		`{"iss":"i","sub":"s","aud":"a","exp":9}`,
		`{"exp":9,"aud":"a","sub":"s","iss":"i"}`,
		`{"nonce":"n","exp":9,"iat":5,"aud":"a","sub":"s","iss":"i"}`,
		`{"iss":"i","sub":"s","aud":"a","iat":99,"exp":9}`,
		`{"iss":"i","sub":"s","aud":"a","iat":"now","exp":9}`,
		`{"iss":"i","sub":"s","aud":"a","iat":null,"exp":9,"nbf":99,"azp":"x"}`,
		`{"":"","iss":"i","Iss":"x","sub":"s","SUB":"x","aud":"a","exp":9,"EXP":0}`,
		`{"more":{"iss":"x","sub":"x","aud":"x","exp":0},"iss":"i","sub":"s","aud":"a","exp":9,"groups":["a",{"b":[null,true,-1]}]}`,
		`{"iss":"i","sub":"s","aud":"a","exp":9,"deep":[[[[[[[]]]]]]]}`,
	} {
		wantCheck(t, s, "i", "a", "", 8, "s", api.OK)
		wantCheck(t, s, "i", "a", "", 9, "", api.ErrClaim)
		wantCheck(t, s, "i", "x", "", 8, "", api.ErrClaim)
	}
	fields := []string{`"iss":"i"`, `"sub":"s"`, `"aud":"a"`, `"exp":9`}
	for i := range api.MaxItems - len(fields) {
		fields = append(fields, fmt.Sprintf(`"%d":%d`, i, i))
	}
	wantCheck(t, object(fields...), "i", "a", "", 8, "s", api.OK)
	wantCheck(t, object(append(fields, `"more":0`)...), "i", "a", "", 8, "", api.ErrForm)
}

// P8.1: values that are good, but no objects.
func TestNoObject(t *testing.T) {
	for _, s := range []string{"null", "true", "false", "0", "9", `""`, `"s"`, `"iss"`, "[]", "[{}]", `["iss","sub","aud","exp"]`, `["i","s","a",9]`, `[{"iss":"","sub":"s","aud":"","exp":9}]`, "{}", `{"":""}`, `{"claims":{"iss":"","sub":"s","aud":"","exp":9}}`} {
		for _, x := range []string{"", "i", "null", "s"} {
			wantCheck(t, s, x, x, "", math.MinInt, "", api.ErrClaim)
			wantCheck(t, s, x, x, x, 0, "", api.ErrClaim)
		}
	}
}

// P8.1: chapter 5's errors, ahead of what the claims are.
func TestParseErrors(t *testing.T) {
	right := plain("i", "s", "a", "n", 5, 9)
	for _, s := range []string{"", " ", "x", right + " ", " " + right, right + right, right + "\x00", right[1:], right[:len(right)-1], `{"iss":"i",}`, `{"iss":"i","iss":"i","sub":"s","aud":"a","exp":9}`, strings.Replace(right, ":", ": ", 1), strings.Replace(right, `"i"`, `"\u0069"`, 1), strings.Replace(right, "5", "05", 1)} {
		wantCheck(t, s, "i", "a", "n", 8, "", api.ErrForm)
		wantCheck(t, s, "x", "x", "x", 9, "", api.ErrForm)
	}
	for i := range len(right) {
		wantCheck(t, right[:i], "i", "a", "n", 8, "", api.ErrForm)
	}
	deep := `{"iss":"i","sub":"s","aud":"a","exp":9,"deep":[[[[[[[[]]]]]]]]}`
	wantCheck(t, deep, "i", "a", "", 8, "", api.ErrDeep)
	wantCheck(t, deep, "x", "x", "x", 9, "", api.ErrDeep)
	wantCheck(t, "[[[[[[[[[]]]]]]]]]", "", "", "", 0, "", api.ErrDeep)
	wantCheck(t, deep+"x", "i", "a", "", 8, "", api.ErrForm)
	room := api.MaxText - len(plain("i", "", "a", "n", 5, 9))
	for n, wantE := range map[int]api.Errno{room - 1: api.OK, room: api.OK, room + 1: api.ErrLarge, 2 * room: api.ErrLarge} {
		sub := strings.Repeat("s", n)
		s := json.Print(claims.Make("i", sub, "a", "n", 5, 9))
		wantCheck(t, s, "i", "a", "n", 8, sub, wantE)
		if wantE == api.OK {
			wantE = api.ErrClaim
		}
		wantCheck(t, s, "x", "a", "n", 8, "", wantE)
	}
	wantCheck(t, strings.Repeat("[", api.MaxText+1), "", "", "", 0, "", api.ErrLarge)
	wantCheck(t, strings.Repeat("[", api.MaxText), "", "", "", 0, "", api.ErrForm)
}

// R1, R3: any payload ends in an answer, and beside an error there is nothing.
func TestAnyPayload(t *testing.T) {
	short.Texts(`{}[]":,1`, 5, func(s string) {
		_, wantE := json.Parse(s)
		if wantE == api.OK {
			wantE = api.ErrClaim
		}
		wantCheck(t, s, "", "", "", math.MinInt, "", wantE)
	})
}

// R4, R5: an answer is its own, and the same again.
func TestMemory(t *testing.T) {
	want := plain("i", "s", "a", "n", 5, 9)
	a, b := claims.Make("i", "s", "a", "n", 5, 9), claims.Make("i", "s", "a", "n", 5, 9)
	spoil := func(v api.Value) {
		v.Keys[0], v.List[0] = "x", api.Value{}
		_ = append(v.Keys[:1], "y", "y")
		_ = append(v.List[:1], numOf(7), numOf(7))
	}
	spoil(a)
	if got := json.Print(b); got != want {
		t.Errorf("an answer of Make changed with another: %q", got)
	}
	_, c, _ := claims.Check(want, "i", "a", "n", 8)
	_, d, _ := claims.Check(want, "i", "a", "n", 8)
	spoil(c)
	if got := json.Print(d); got != want {
		t.Errorf("an answer of Check changed with another: %q", got)
	}
	wantMake(t, "i", "s", "a", "n", 5, 9)
	wantCheck(t, want, "i", "a", "n", 8, "s", api.OK)
}
