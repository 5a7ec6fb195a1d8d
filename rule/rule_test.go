package rule_test

import (
	stdjson "encoding/json"
	"fmt"
	"math"
	"math/rand"
	"regexp"
	"slices"
	"strings"
	"testing"

	"exequatur/api"
	"exequatur/json"
	"exequatur/rule"
	"exequatur/short"
)

// word is a word of a rule, for another program.
const word = "[0-9A-Za-z_-]{1,32}"

// pattern is a rule, for another program; what is set is told apart, for it may be one of own.
var pattern = regexp.MustCompile(`\A(?:(?:set|text) (` + word + `) ` + word + `|(?:join|only) (` + word + `) ` + word + ` ` + word + `|need ` + word + ` ` + word + `)\z`)

// own has the claims that no rule sets.
var own = []string{"iss", "sub", "aud", "exp", "iat", "nonce", "use", "fam"}

// ops has the names of the rules, and how many words stand behind each.
var ops = map[string]int{"set": 2, "text": 2, "join": 3, "need": 2, "only": 3}

// plainRule tells whether a part is a rule, as another program does.
func plainRule(part string) bool {
	m := pattern.FindStringSubmatch(part)
	return m != nil && !slices.Contains(own, m[1]+m[2])
}

// plainParse reads rules as another program does, each as its words.
func plainParse(s string) ([][]string, int, api.Errno) {
	if s == "" {
		return nil, 0, api.OK
	}
	parts := regexp.MustCompile(";").Split(s, -1)
	if len(parts) > 64 {
		return nil, 0, api.ErrLarge
	}
	var list [][]string
	for i, part := range parts {
		if !plainRule(part) {
			return nil, i + 1, api.ErrForm
		}
		list = append(list, strings.Fields(part))
	}
	return list, 0, api.OK
}

// words answers each rule as its words.
func words(rules []rule.Rule) [][]string {
	var list [][]string
	for _, r := range rules {
		list = append(list, append([]string{r.Op}, r.Args...))
	}
	return list
}

func wantParse(t *testing.T, s string) {
	t.Helper()
	want, wantN, wantE := plainParse(s)
	got, n, e := rule.Parse(s)
	if n != wantN || e != wantE || !slices.EqualFunc(words(got), want, slices.Equal[[]string]) {
		t.Errorf("Parse(%.300q): %.300q, %d, %d; want %.300q, %d, %d", s, words(got), n, e, want, wantN, wantE)
	}
}

// fails fails, if Parse answers another place than n.
func fails(t *testing.T, s string, n int, wantE api.Errno) {
	t.Helper()
	if got, k, e := rule.Parse(s); len(got) != 0 || k != n || e != wantE {
		t.Errorf("Parse(%.300q): %.300q, %d, %d; want nothing, %d, %d", s, words(got), k, e, n, wantE)
	}
	wantParse(t, s)
}

// parsed answers the rules of a text that has some.
func parsed(t *testing.T, s string) []rule.Rule {
	t.Helper()
	wantParse(t, s)
	rules, _, e := rule.Parse(s)
	if e != api.OK {
		t.Fatalf("Parse(%.300q): %d", s, e)
	}
	return rules
}

// value answers the value of a text.
func value(t *testing.T, s string) api.Value {
	t.Helper()
	v, e := json.Parse(s)
	if e != api.OK {
		t.Fatalf("json.Parse(%.300q): %d", s, e)
	}
	return v
}

// wantRun fails, if what the rules make of claims has another text than want; if that is empty, they should refuse them.
func wantRun(t *testing.T, rules, claims, want string) {
	t.Helper()
	got, ok := rule.Run(parsed(t, rules), value(t, claims))
	if ok != (want != "") || json.Print(got) != want || !ok && !json.Same(got, api.Value{}) {
		t.Errorf("Run(%.300q, %.300q): %.300q, %v; want %.300q", rules, claims, fmt.Sprint(got), ok, want)
	}
}

// P14.1: Parse, as its rules stand.
func TestParseKnown(t *testing.T) {
	for s, want := range map[string][][]string{
		"":                                  nil,
		"set groups groups":                 {{"set", "groups", "groups"}},
		"set a b;text c d":                  {{"set", "a", "b"}, {"text", "c", "d"}},
		"need groups staff;only a b c":      {{"need", "groups", "staff"}, {"only", "a", "b", "c"}},
		"join who sub email":                {{"join", "who", "sub", "email"}},
		"need iss a;set a iss":              {{"need", "iss", "a"}, {"set", "a", "iss"}},
		"set a a;set a a;set a a":           {{"set", "a", "a"}, {"set", "a", "a"}, {"set", "a", "a"}},
		"set set set;text text text":        {{"set", "set", "set"}, {"text", "text", "text"}},
		"text _ -;join 0 9 Z;only a_-0 z A": {{"text", "_", "-"}, {"join", "0", "9", "Z"}, {"only", "a_-0", "z", "A"}},
	} {
		got, n, e := rule.Parse(s)
		if n != 0 || e != api.OK || !slices.EqualFunc(words(got), want, slices.Equal[[]string]) {
			t.Errorf("Parse(%q): %q, %d, %d; want %q", s, words(got), n, e, want)
		}
		wantParse(t, s)
	}
}

// P14.1: Parse of what is none, and which is the first.
func TestParseNone(t *testing.T) {
	for s, n := range map[string]int{
		";": 1, ";;": 1, " ": 1, "; ": 1, "x": 1, "set": 1, "set ": 1, "set a": 1, "set a ": 1, "set a b c": 1, "set  a b": 1, "set a  b": 1,
		" set a b": 1, "set a b ": 1, "set\ta b": 1, "set a\nb": 1, "set a b\n": 1, "SET a b": 1, "Set a b": 1, "sett a b": 1, "se a b": 1, "set,a,b": 1,
		"text a": 1, "text a b c": 1, "join a b": 1, "join a b c d": 1, "need a": 1, "need a b c": 1, "only a b": 1, "only a b c d": 1, "need": 1, "only": 1,
		"set a b;": 2, ";set a b": 1, "set a b; set a b": 2, "set a b ;set a b": 1, "set a b;;set a b": 2, "set a b;set a b;x;y": 3, "x;set a b;y": 1,
		"set a b&set a b": 1, "set é b": 1, "set a é": 1, "text a ſ": 1, "text a ٣": 1, "text a \xff": 1, "text a \x00": 1, "need a \u2028": 1, "text a \ufffd": 1,
		"set a b\u00a0": 1, "set\u00a0a b": 1, "text a b.c": 1, "text a *": 1, "set a.b c": 1, "text a %41": 1, "text a \"b\"": 1,
	} {
		fails(t, s, n, api.ErrForm)
	}
}

// P14.1: ErrLarge, and 0, of more than MaxItems parts, whatever they are.
func TestParseLarge(t *testing.T) {
	for _, part := range []string{"set a b", "", "x", " ", "set iss b", "need a b", strings.Repeat("text a b c d ", 1000)} {
		for _, n := range []int{1, 2, 63, 64, 65, 66, 128, 1000} {
			wantParse(t, strings.Repeat(part+";", n-1)+part)
		}
		fails(t, strings.Repeat(part+";", 64)+part, 0, api.ErrLarge)
	}
	many := strings.Repeat("set a b;", 63)
	if rules := parsed(t, many+"need a b"); len(rules) != 64 {
		t.Errorf("Parse of 64 rules: %d of them", len(rules))
	}
	fails(t, many+"x", 64, api.ErrForm)
	fails(t, many, 64, api.ErrForm)
	fails(t, many+";", 0, api.ErrLarge)
	fails(t, "x;"+many+"need a b", 0, api.ErrLarge)
	fails(t, strings.Repeat(";", 63), 1, api.ErrForm)
	fails(t, strings.Repeat(";", 64), 0, api.ErrLarge)
	fails(t, strings.Repeat(";", 1<<20), 0, api.ErrLarge)
}

// P14.1: there is no bound for the bytes of rules, but for what their words have.
func TestParseLong(t *testing.T) {
	long := "join" + strings.Repeat(" "+strings.Repeat("w", 32), 3)
	if rules := parsed(t, strings.Repeat(long+";", 63)+long); len(rules) != 64 {
		t.Errorf("Parse of 64 long rules: %d of them", len(rules))
	}
	for _, s := range []string{strings.Repeat(" ", 1<<20), strings.Repeat("a", 1<<20), strings.Repeat("set a b ", 1<<16), "set a " + strings.Repeat("b", 1<<20)} {
		fails(t, s, 1, api.ErrForm)
		fails(t, "set a b;"+s, 2, api.ErrForm)
	}
}

// P14.1: words of every length, at each place.
func TestParseLengths(t *testing.T) {
	for op, n := range ops {
		for place := range n {
			for length := range 70 {
				list := slices.Repeat([]string{"a"}, n)
				list[place] = strings.Repeat("b", length)
				s := op + " " + strings.Join(list, " ")
				wantParse(t, s)
				if _, _, e := rule.Parse(s); (e == api.OK) != (1 <= length && length <= 32) {
					t.Errorf("Parse(%q): %d", s, e)
				}
			}
			// 32 letters of more bytes than one, and 32 bytes of such letters, are none.
			list := slices.Repeat([]string{"a"}, n)
			for _, w := range []string{strings.Repeat("é", 16), strings.Repeat("é", 32), "é"} {
				list[place] = w
				fails(t, op+" "+strings.Join(list, " "), 1, api.ErrForm)
			}
		}
	}
}

// P14.1: each byte at each place of rules, in another's place and between.
func TestParseBytes(t *testing.T) {
	for _, s := range []string{"set a b", "text a b", "join a b c", "need a b", "only a b c", "set a b;need c d"} {
		for i := range len(s) + 1 {
			wantParse(t, s[:i])
			for c := range 256 {
				b := string([]byte{byte(c)})
				wantParse(t, s[:i]+b+s[i:])
				if i < len(s) {
					wantParse(t, s[:i]+b+s[i+1:])
				}
			}
		}
	}
}

// P14.1: letters, digits, _ and - are those of a word, and no others.
func TestParseLetters(t *testing.T) {
	const letters = "0123456789ABCDEFGHIJKLMNOPQRSTUVWXYZ_abcdefghijklmnopqrstuvwxyz-"
	for c := range rune(0x3100) {
		_, _, e := rule.Parse("text a x" + string(c))
		if (e == api.OK) != strings.ContainsRune(letters, c) {
			t.Errorf("Parse of a word with %q: %d", c, e)
		}
	}
}

// P14.1: what no rule sets, and what each may ask for.
func TestParseOwn(t *testing.T) {
	for _, k := range own {
		for op, n := range ops {
			for place := range n {
				list := slices.Repeat([]string{"a"}, n)
				list[place] = k
				s := op + " " + strings.Join(list, " ")
				if place == 0 && op != "need" {
					fails(t, s, 1, api.ErrForm)
					fails(t, "need sub a;"+s, 2, api.ErrForm)
				} else {
					parsed(t, s)
				}
			}
		}
		for _, like := range []string{k + "s", "x" + k, k[1:], k[:len(k)-1], strings.ToUpper(k), strings.ToUpper(k[:1]) + k[1:], k + "_", "-" + k, k + k} {
			parsed(t, "set "+like+" a")
			parsed(t, "join "+like+" a a")
		}
	}
	for _, k := range []string{"scope", "active", "email", "client_id", "azp", "jti", "nbf", "name", "family", "user"} {
		parsed(t, "set "+k+" a;text "+k+" a;join "+k+" a a;only "+k+" a a")
	}
}

// P14.1: every row of up to five words, alone and behind a rule.
func TestParseRows(t *testing.T) {
	vocabulary := map[rune]string{'s': "set", 't': "text", 'j': "join", 'n': "need", 'o': "only", 'a': "a", 'i': "iss", 'e': ""}
	short.Texts("stjnoaie", 5, func(s string) {
		var list []string
		for _, c := range s {
			list = append(list, vocabulary[c])
		}
		row := strings.Join(list, " ")
		wantParse(t, row)
		if len(s) < 4 {
			wantParse(t, "set a b;"+row)
			wantParse(t, row+";set a b")
		}
	})
}

// P14.1: random texts of rules, and of what is nearly one.
func TestParseRandom(t *testing.T) {
	r := rand.New(rand.NewSource(14))
	pieces := []string{"set a b", "text a b", "join a b c", "need sub a", "only c d e", ";", ";", ";", ";", "x", " ", "set", "iss", "need iss b", "set iss b"}
	for range 20000 {
		var s strings.Builder
		for i := range r.Intn(12) {
			if i%2 == 1 && r.Intn(8) > 0 {
				s.WriteByte(';')
				continue
			}
			s.WriteString(pieces[r.Intn(len(pieces))])
		}
		wantParse(t, s.String())
	}
}

// P14.1: Run, rule by rule.
func TestRunKnown(t *testing.T) {
	const c = `{"sub":"a","email":"a@x","n":5,"yes":true,"no":null,"groups":["staff","stuff","x",1,["staff"],null,"s"],"o":{"k":["staff"]},"empty":[],"none":""}`
	for rules, want := range map[string]string{
		"":                               `{}`,
		"set groups groups":              `{"groups":["staff","stuff","x",1,["staff"],null,"s"]}`,
		"set m email":                    `{"m":"a@x"}`,
		"set m lacks":                    `{}`,
		"set a n;set b yes;set c no":     `{"a":5,"b":true,"c":null}`,
		"set a o;set b empty":            `{"a":{"k":["staff"]},"b":[]}`,
		"set a sub;set b none":           `{"a":"a","b":""}`,
		"set email sub":                  `{"email":"a"}`,
		"text m x":                       `{"m":"x"}`,
		"text m email":                   `{"m":"email"}`,
		"text m sub;set x m":             `{"m":"sub"}`,
		"join w sub email":               `{"w":"a.a@x"}`,
		"join w email sub":               `{"w":"a@x.a"}`,
		"join w sub sub":                 `{"w":"a.a"}`,
		"join w none sub":                `{"w":".a"}`,
		"join w sub none":                `{"w":"a."}`,
		"join w none none":               `{"w":"."}`,
		"join w sub lacks":               "",
		"join w lacks sub":               "",
		"join w lacks lacks":             "",
		"join w sub n":                   "",
		"join w n sub":                   "",
		"join w yes sub":                 "",
		"join w sub no":                  "",
		"join w groups sub":              "",
		"join w sub o":                   "",
		"join w empty sub":               "",
		"need sub a":                     `{}`,
		"need sub b":                     "",
		"need sub A":                     "",
		"need sub aa":                    "",
		"need email a":                   "",
		"need lacks a":                   "",
		"need none a":                    "",
		"need n 5":                       "",
		"need yes true":                  "",
		"need yes 1":                     "",
		"need no null":                   "",
		"need groups staff":              `{}`,
		"need groups x":                  `{}`,
		"need groups s":                  `{}`,
		"need groups 1":                  "",
		"need groups st":                 "",
		"need groups staffs":             "",
		"need groups STAFF":              "",
		"need o staff":                   "",
		"need o k":                       "",
		"need empty a":                   "",
		"only g groups st":               `{"g":["staff","stuff"]}`,
		"only g groups s":                `{"g":["staff","stuff","s"]}`,
		"only g groups staff":            `{"g":["staff"]}`,
		"only g groups stafff":           `{"g":[]}`,
		"only g groups S":                `{"g":[]}`,
		"only g groups 1":                `{"g":[]}`,
		"only g lacks s":                 `{"g":[]}`,
		"only g sub a":                   `{"g":[]}`,
		"only g o staff":                 `{"g":[]}`,
		"only g empty a":                 `{"g":[]}`,
		"only g n 5":                     `{"g":[]}`,
		"only g no n":                    `{"g":[]}`,
		"set a sub;set b email;text c x": `{"a":"a","b":"a@x","c":"x"}`,
		"set a sub;set b email;text a x": `{"a":"x","b":"a@x"}`,
		"set a sub;set b n;set a lacks":  `{"a":"a","b":5}`,
		"text a x;text b y;join a sub email;only b groups x;set b sub": `{"a":"a.a@x","b":"a"}`,
		"text b y;text a x;only b lacks x;text c z;set a n":            `{"b":[],"a":5,"c":"z"}`,
		"text a x;need a x":                          "",
		"text a x;join b a a":                        "",
		"text a x;need sub b;text a y":               "",
		"need sub b;need sub a":                      "",
		"need sub a;need sub b":                      "",
		"need sub a;need groups x;need groups staff": `{}`,
		"text sub1 x;set Sub sub":                    `{"sub1":"x","Sub":"a"}`,
	} {
		wantRun(t, rules, c, want)
	}
}

// P14.1: Run without claims, and by those that no rule sets.
func TestRunOwn(t *testing.T) {
	wantRun(t, "", `{}`, `{}`)
	wantRun(t, "set a b;text c d;only e f g", `{}`, `{"c":"d","e":[]}`)
	wantRun(t, "need a b", `{}`, "")
	wantRun(t, "join a b c", `{}`, "")
	const c = `{"iss":"i","sub":"s","aud":"a","exp":5,"iat":1,"nonce":"n","use":"u","fam":"f"}`
	for _, k := range own {
		v, _ := json.Field(value(t, c), k)
		wantRun(t, "set x "+k, c, `{"x":`+json.Print(v)+`}`)
	}
	wantRun(t, "need iss i;need nonce n;join x use fam", c, `{"x":"u.f"}`)
}

// P14.1: a word is told as it stands, however it looks.
func TestRunWords(t *testing.T) {
	long := strings.Repeat("w", 32)
	for _, w := range []string{"null", "true", "0", "-", "_", "-1", "iss", "set", long} {
		wantRun(t, "text a "+w, `{}`, `{"a":"`+w+`"}`)
		wantRun(t, "need a "+w, `{"a":"`+w+`"}`, `{}`)
		wantRun(t, "need a "+w, `{"a":"`+w+`x"}`, "")
		wantRun(t, "need a "+w, `{"a":["`+w+`x","`+w+`"]}`, `{}`)
		wantRun(t, "need a "+w, `{"a":[["`+w+`"],null,{"`+w+`":"`+w+`"}]}`, "")
		wantRun(t, "only a a "+w, `{"a":["`+w+`x","`+w+`","x`+w+`",null,0,true,-1]}`, `{"a":["`+w+`x","`+w+`"]}`)
	}
	wantRun(t, "set a "+long, `{"`+long+`":5}`, `{"a":5}`)
	wantRun(t, "set "+long+" a;text "+long+" b", `{"a":5}`, `{"`+long+`":"b"}`)
	// Texts of any bytes are told as they are.
	wantRun(t, "set x a;join y a a;only z b a", `{"a":"\"\\\u0000`+"\xff"+`é","b":["a\u0001","`+"a\xff"+`"]}`,
		`{"x":"\"\\\u0000`+"\xff"+`é","y":"\"\\\u0000`+"\xff"+`é.\"\\\u0000`+"\xff"+`é","z":["a\u0001","`+"a\xff"+`"]}`)
}

// textOf answers a text's value; listOf a list's.
func textOf(s string) api.Value          { return api.Value{Kind: api.Text, Text: s} }
func listOf(list ...api.Value) api.Value { return api.Value{Kind: api.List, List: list} }
func objectOf(k string, v api.Value) api.Value {
	return api.Value{Kind: api.Object, Keys: []string{k}, List: []api.Value{v}}
}

// deep answers an object so many levels deep.
func deep(levels int) api.Value {
	v := listOf()
	for range levels - 2 {
		v = listOf(v)
	}
	return objectOf("a", v)
}

// notGood has claims that are no good object.
func notGood() []api.Value {
	round := listOf(api.Value{})
	round.List[0] = round
	many := api.Value{Kind: api.Object}
	for i := range 65 {
		many.Keys = append(many.Keys, fmt.Sprint(i))
		many.List = append(many.List, textOf(""))
	}
	list := []api.Value{
		{}, {Kind: api.Null}, {Kind: api.Bool, Num: 1}, {Kind: api.Num}, textOf("a"), textOf("{}"), listOf(), listOf(objectOf("a", textOf("b"))),
		{Kind: api.Object, Text: "a"}, {Kind: api.Object, Num: 1}, {Kind: api.Object, Keys: []string{"a"}}, {Kind: api.Object, List: []api.Value{textOf("a")}},
		{Kind: api.Object, Keys: []string{"a", "a"}, List: []api.Value{textOf("b"), textOf("b")}},
		objectOf("a", api.Value{}), objectOf("a", api.Value{Kind: api.Null, Text: "x"}), objectOf("a", api.Value{Kind: api.Num, Num: 1<<53 + 1}),
		objectOf("a", api.Value{Kind: 7}), objectOf("a", listOf(api.Value{Kind: api.Bool, Num: 2})), objectOf("a", listOf(slices.Repeat([]api.Value{textOf("")}, 65)...)),
		deep(9), deep(50), many, round, objectOf("a", round),
	}
	for _, kind := range []int{-1, 7, 1 << 32, math.MinInt, math.MaxInt} {
		list = append(list, api.Value{Kind: kind, Keys: []string{"a"}, List: []api.Value{textOf("b")}})
	}
	for kind := api.Null; kind < api.Object; kind++ {
		list = append(list, api.Value{Kind: kind, Keys: []string{"a"}, List: []api.Value{textOf("b")}})
	}
	return list
}

// P14.1: claims that are no good object are refused, whatever the rules say.
func TestRunNotGood(t *testing.T) {
	for i, v := range notGood() {
		for _, s := range []string{"", "need a b", "set x a", "text x y", "only x a b", "join x a a"} {
			if got, ok := rule.Run(parsed(t, s), v); ok || !json.Same(got, api.Value{}) {
				t.Errorf("Run(%q, the value %d that is not good): %.200q, %v", s, i, fmt.Sprint(got), ok)
			}
		}
		if got, ok := rule.Run([]rule.Rule{{}}, v); ok || !json.Same(got, api.Value{}) {
			t.Errorf("Run of no rule, the value %d that is not good: %.200q, %v", i, fmt.Sprint(got), ok)
		}
	}
}

// P14.1: as much as a good object may have is told on.
func TestRunGreat(t *testing.T) {
	got, ok := rule.Run(parsed(t, "set b a"), deep(8))
	if !ok || !json.Good(got) || json.Print(got) != strings.Replace(json.Print(deep(8)), "a", "b", 1) {
		t.Errorf("Run of what is as deep as may be: %q, %v", json.Print(got), ok)
	}
	var claims, rules, want []string
	for i := range 64 {
		claims = append(claims, fmt.Sprintf(`"c%d":%d`, i, i))
		rules = append(rules, fmt.Sprintf("set k%d c%d", i, 63-i))
		want = append(want, fmt.Sprintf(`"k%d":%d`, i, 63-i))
	}
	wantRun(t, strings.Join(rules, ";"), "{"+strings.Join(claims, ",")+"}", "{"+strings.Join(want, ",")+"}")
	var list []api.Value
	for i := range 64 {
		list = append(list, textOf(strings.Repeat("a", i)))
	}
	got, ok = rule.Run(parsed(t, "only x a a;need a "+strings.Repeat("a", 32)), objectOf("a", listOf(list...)))
	if !ok || !json.Same(got, objectOf("x", listOf(list[1:]...))) {
		t.Errorf("Run of a list as great as may be: %.200q, %v", fmt.Sprint(got), ok)
	}
}

// P14.1: rules that are none are left out.
func TestRunLeftOut(t *testing.T) {
	long := strings.Repeat("w", 33)
	none := []rule.Rule{
		{}, {Op: "x"}, {Op: "set"}, {Op: "need"}, {Op: "join"}, {Op: "only"}, {Op: "text"}, {Args: []string{"a", "b"}},
		{"Set", []string{"a", "c"}}, {"SET", []string{"a", "c"}}, {" set", []string{"a", "c"}}, {"set ", []string{"a", "c"}}, {"set a c", nil}, {"", []string{"set", "a", "c"}},
		{"set", []string{"a"}}, {"set", []string{"a", "c", "c"}}, {"text", []string{"a"}}, {"text", []string{"a", "c", "c"}}, {"join", []string{"a", "c"}},
		{"join", []string{"a", "lacks", "c", "c"}}, {"need", []string{"lacks"}}, {"need", []string{"lacks", "x", "x"}}, {"only", []string{"a", "c"}}, {"only", []string{"a", "c", "c", "c"}},
		{"need", []string{"lacks", ""}}, {"need", []string{"", "x"}}, {"need", []string{"lacks", "a b"}}, {"need", []string{"lacks", "é"}}, {"need", []string{"lacks", "x;"}}, {"need", []string{long, "x"}}, {"need", []string{"lacks", long}},
		{"join", []string{"a", "lacks", ""}}, {"join", []string{"", "lacks", "lacks"}}, {"join", []string{"a", "", "lacks"}}, {"join", []string{long, "lacks", "lacks"}}, {"join", []string{"a", long, "c"}}, {"join", []string{"a", "c", "\xff"}},
		{"set", []string{"", "c"}}, {"set", []string{"a", ""}}, {"set", []string{"a b", "c"}}, {"set", []string{long, "c"}}, {"text", []string{"a", ""}}, {"text", []string{"a", long}}, {"text", []string{"a", "\x00"}},
		{"only", []string{"a", "c", ""}}, {"only", []string{"", "c", "c"}}, {"only", []string{"a", "", "c"}}, {"only", []string{"a", "c", long}}, {"only", []string{"a.", "c", "c"}},
	}
	for _, k := range own {
		none = append(none, rule.Rule{Op: "set", Args: []string{k, "c"}}, rule.Rule{Op: "text", Args: []string{k, "c"}},
			rule.Rule{Op: "join", Args: []string{k, "lacks", "c"}}, rule.Rule{Op: "only", Args: []string{k, "c", "c"}})
	}
	claims := value(t, `{"c":"v","sub":"s","":"e","`+long+`":"l"}`)
	for _, r := range none {
		list := slices.Concat([]rule.Rule{r}, parsed(t, "set a c;text b x"), []rule.Rule{r}, parsed(t, "need sub s;text b y"), []rule.Rule{r, r})
		if got, ok := rule.Run(list, claims); !ok || json.Print(got) != `{"a":"v","b":"y"}` {
			t.Errorf("Run with %q: %q, %v", r, json.Print(got), ok)
		}
		if got, ok := rule.Run([]rule.Rule{r}, claims); !ok || json.Print(got) != `{}` {
			t.Errorf("Run of %q: %q, %v", r, json.Print(got), ok)
		}
		if got, ok := rule.Run([]rule.Rule{{"need", []string{"sub", "x"}}, r}, claims); ok || !json.Same(got, api.Value{}) {
			t.Errorf("Run of a need and %q: %q, %v", r, json.Print(got), ok)
		}
	}
	if got, ok := rule.Run(none, claims); !ok || json.Print(got) != `{}` {
		t.Errorf("Run of all that are none: %q, %v", json.Print(got), ok)
	}
}

// P14.1: Run goes through all rules, also through more than Parse answers.
func TestRunMany(t *testing.T) {
	one := parsed(t, "text a x")
	list := append(slices.Repeat(one, 1000), parsed(t, "text b y;text a z")...)
	if got, ok := rule.Run(list, value(t, `{}`)); !ok || json.Print(got) != `{"a":"z","b":"y"}` {
		t.Errorf("Run of many rules: %q, %v", json.Print(got), ok)
	}
	if _, ok := rule.Run(append(list, parsed(t, "need a x")...), value(t, `{}`)); ok {
		t.Error("Run of many rules: the last one is not asked")
	}
	list = nil
	for i := range 100 {
		list = append(list, rule.Rule{Op: "text", Args: []string{fmt.Sprint("k", i), fmt.Sprint("v", i)}})
	}
	got, ok := rule.Run(list, value(t, `{}`))
	if !ok || got.Kind != api.Object || len(got.Keys) != 100 || len(got.List) != 100 {
		t.Fatalf("Run of 100 rules: %d keys, %d values, %v", len(got.Keys), len(got.List), ok)
	}
	for i := range 100 {
		if got.Keys[i] != fmt.Sprint("k", i) || !json.Same(got.List[i], textOf(fmt.Sprint("v", i))) {
			t.Errorf("Run of 100 rules: %q, %.200q at %d", got.Keys[i], fmt.Sprint(got.List[i]), i)
		}
	}
}

// pair is a claim's name, and its text.
type pair struct{ key, text string }

// plainRun answers the text of what rules make of claims, as another program does, by the texts of the claims.
func plainRun(rules [][]string, claims map[string]stdjson.RawMessage) string {
	var out []pair
	put := func(k, s string) {
		for i := range out {
			if out[i].key == k {
				out[i].text = s
				return
			}
		}
		out = append(out, pair{k, s})
	}
	for _, w := range rules {
		switch w[0] {
		case "set":
			if raw, ok := claims[w[2]]; ok {
				put(w[1], string(raw))
			}
		case "text":
			put(w[1], `"`+w[2]+`"`)
		case "join":
			c, d := string(claims[w[2]]), string(claims[w[3]])
			if !strings.HasPrefix(c, `"`) || !strings.HasPrefix(d, `"`) {
				return ""
			}
			put(w[1], c[:len(c)-1]+"."+d[1:])
		case "need":
			if string(claims[w[1]]) != `"`+w[2]+`"` && !slices.Contains(texts(claims[w[1]]), w[2]) {
				return ""
			}
		case "only":
			var list []string
			for _, s := range texts(claims[w[2]]) {
				if s == w[3] || len(s) > len(w[3]) && s[:len(w[3])] == w[3] {
					list = append(list, `"`+s+`"`)
				}
			}
			put(w[1], "["+strings.Join(list, ",")+"]")
		}
	}
	var all []string
	for _, p := range out {
		all = append(all, `"`+p.key+`":`+p.text)
	}
	return "{" + strings.Join(all, ",") + "}"
}

// texts answers the texts of a list's text; none of what is no list.
func texts(raw stdjson.RawMessage) []string {
	var items []any
	if stdjson.Unmarshal(raw, &items) != nil {
		return nil
	}
	var list []string
	for _, x := range items {
		if s, ok := x.(string); ok {
			list = append(list, s)
		}
	}
	return list
}

// P14.1: random rules and claims, against another program's.
func TestRunRandom(t *testing.T) {
	r := rand.New(rand.NewSource(41))
	names := []string{"a", "b", "c", "d"}
	vals := []string{`"a"`, `"b"`, `"ab"`, `""`, `"abc"`, `5`, `null`, `true`, `[]`, `["a"]`, `["ab","b","a",1,["a"]]`, `["abc","","b",null,"ab"]`, `{"a":"b"}`, `{"a":["a","b"]}`}
	pick := func(list []string) string { return list[r.Intn(len(list))] }
	refused := 0
	for range 30000 {
		var fields []string
		for _, k := range names {
			if r.Intn(5) > 0 {
				fields = append(fields, `"`+k+`":`+pick(vals))
			}
		}
		c := "{" + strings.Join(fields, ",") + "}"
		var list []string
		for range r.Intn(8) {
			op := pick([]string{"set", "set", "text", "text", "only", "only", "join", "need"})
			w := []string{op}
			for range ops[op] {
				w = append(w, pick(append([]string{"ab"}, names...)))
			}
			list = append(list, strings.Join(w, " "))
		}
		var raw map[string]stdjson.RawMessage
		if err := stdjson.Unmarshal([]byte(c), &raw); err != nil {
			t.Fatal(err)
		}
		s := strings.Join(list, ";")
		rules, _, _ := plainParse(s)
		want := plainRun(rules, raw)
		if want == "" {
			refused++
		}
		wantRun(t, s, c, want)
	}
	if refused < 3000 || refused > 27000 {
		t.Errorf("%d of 30000 are refused: the cases are of one kind", refused)
	}
}

// spare answers list with room behind it, in which mark stands.
func spare[T any](mark T, list ...T) []T {
	with := append(slices.Clone(list), mark, mark, mark)
	return with[:len(list)]
}

// spoil writes over all that a value has in lists, and over their room.
func spoil(v api.Value) {
	for i := range v.List {
		spoil(v.List[i])
	}
	for i := range v.List[:cap(v.List)] {
		v.List[:cap(v.List)][i] = api.Value{Kind: api.Null, Text: "spoilt"}
	}
	for i := range v.Keys[:cap(v.Keys)] {
		v.Keys[:cap(v.Keys)][i] = "spoilt"
	}
}

// R4: what is handed to Run is not changed, spare room included, and what it answers shares none with it, or with another answer.
func TestRunMemory(t *testing.T) {
	handed := func() ([]rule.Rule, api.Value) {
		rules := parsed(t, "set a l;set b l;only c l s;text a x;set a l;set d o;join e s s;need l staff;only l l x")
		for i := range rules {
			rules[i].Args = spare("room", rules[i].Args...)
		}
		list := api.Value{Kind: api.List, List: spare(textOf("room"), textOf("staff"), textOf("x"), listOf(spare(textOf("room"), textOf("y"))...))}
		inner := api.Value{Kind: api.Object, Keys: spare("room", "k"), List: spare(textOf("room"), listOf(textOf("z")))}
		return spare(rule.Rule{Op: "room"}, rules...), api.Value{Kind: api.Object, Keys: spare("room", "l", "o", "s"), List: spare(textOf("room"), list, inner, textOf("t"))}
	}
	const want = `{"a":["staff","x",["y"]],"b":["staff","x",["y"]],"c":["staff"],"d":{"k":["z"]},"e":"t.t","l":["x"]}`
	rules, claims := handed()
	wasRules, was := handed()
	shown := fmt.Sprintf("%q", wasRules[:cap(wasRules)])
	got, ok := rule.Run(rules, claims)
	other, _ := rule.Run(rules, claims)
	if !ok || json.Print(got) != want {
		t.Fatalf("Run: %s, %v", json.Print(got), ok)
	}
	// Each list of an answer is spoilt on its own: no other one of it may lie in the same memory.
	for i := range got.List {
		spoil(got.List[i])
		if i+1 < len(got.List) && json.Print(api.Value{Kind: api.List, List: got.List[i+1:]}) != json.Print(api.Value{Kind: api.List, List: other.List[i+1:]}) {
			t.Errorf("the answer's value %d shares memory with another of it", i)
		}
	}
	spoil(got)
	if json.Print(other) != want {
		t.Errorf("an answer shares memory with another: %s", json.Print(other))
	}
	if !json.Same(claims, was) || json.Print(listOf(claims.List[:cap(claims.List)]...)) != json.Print(listOf(was.List[:cap(was.List)]...)) || !slices.Equal(claims.Keys[:cap(claims.Keys)], was.Keys[:cap(was.Keys)]) {
		t.Errorf("Run changes claims: %s", json.Print(claims))
	}
	for i := range claims.List {
		a, b := claims.List[i], was.List[i]
		if fmt.Sprint(a.List[:cap(a.List)]) != fmt.Sprint(b.List[:cap(b.List)]) || !slices.Equal(a.Keys[:cap(a.Keys)], b.Keys[:cap(b.Keys)]) {
			t.Errorf("Run changes the room of a claim: %.300q", fmt.Sprint(a.List[:cap(a.List)]))
		}
	}
	for i := range rules {
		if a, b := rules[i].Args, wasRules[i].Args; !slices.Equal(a[:cap(a)], b[:cap(b)]) {
			t.Errorf("Run changes the room of a rule: %q", a[:cap(a)])
		}
	}
	if now := fmt.Sprintf("%q", rules[:cap(rules)]); now != shown {
		t.Errorf("Run changes the rules: %s; they were %s", now, shown)
	}
	spoil(claims)
	for i := range rules {
		rules[i].Op = "spoilt"
		for j := range rules[i].Args {
			rules[i].Args[j] = "spoilt"
		}
	}
	if json.Print(other) != want {
		t.Errorf("an answer shares memory with what was handed in: %s", json.Print(other))
	}
}

// R4: rules that were parsed share no memory with one another, or with those of another call.
func TestParseMemory(t *testing.T) {
	const s = "set a b;join c d e;set a b"
	first, second := parsed(t, s), parsed(t, s)
	for i := range first {
		args := first[i].Args
		for j := range args[:cap(args)] {
			args[:cap(args)][j] = "spoilt"
		}
		first[i].Op = "spoilt"
		want, _, _ := plainParse(s)
		if !slices.EqualFunc(words(first[i+1:]), want[i+1:], slices.Equal[[]string]) || !slices.EqualFunc(words(second), want, slices.Equal[[]string]) {
			t.Fatalf("rules share memory: %q, %q", words(first), words(second))
		}
	}
}

// R5: the same calls have the same answers, whatever was called ahead of them.
func TestAgain(t *testing.T) {
	for range 20 {
		wantRun(t, "text a x;set b s;need s t;only c l s;join d s s", `{"s":"t","l":["s"]}`, `{"a":"x","b":"t","c":["s"],"d":"t.t"}`)
		wantRun(t, "need s x", `{"s":"t"}`, "")
		wantRun(t, "", `{}`, `{}`)
		fails(t, "set a b;x", 2, api.ErrForm)
	}
}
