package json_test

import (
	outside "encoding/json"
	"fmt"
	"math"
	"slices"
	"strconv"
	"strings"
	"testing"

	"exequatur/api"
	"exequatur/json"
	"exequatur/short"
)

const far = 1 << 53

func null() api.Value         { return api.Value{Kind: api.Null} }
func num(n int64) api.Value   { return api.Value{Kind: api.Num, Num: n} }
func text(s string) api.Value { return api.Value{Kind: api.Text, Text: s} }

func boolean(n int64) api.Value { return api.Value{Kind: api.Bool, Num: n} }

func list(items ...api.Value) api.Value { return api.Value{Kind: api.List, List: items} }

func object(keys []string, items ...api.Value) api.Value {
	return api.Value{Kind: api.Object, Keys: keys, List: items}
}

// nest answers v in n lists, each in another.
func nest(n int, v api.Value) api.Value {
	for range n {
		v = list(v)
	}
	return v
}

// nestText answers the text of nest.
func nestText(n int, s string) string {
	return strings.Repeat("[", n) + s + strings.Repeat("]", n)
}

// plainSame holds two values against each other by what fmt tells of them, to which nil and empty lists are the same.
func plainSame(a, b api.Value) bool {
	return fmt.Sprintf("%#v", bare(a)) == fmt.Sprintf("%#v", bare(b))
}

// bare answers v, its empty lists being nil.
func bare(v api.Value) api.Value {
	v.Keys = append([]string(nil), v.Keys...)
	var items []api.Value
	for _, x := range v.List {
		items = append(items, bare(x))
	}
	v.List = items
	return v
}

func wantParse(t *testing.T, s string, want api.Value, wantE api.Errno) {
	t.Helper()
	if got, e := json.Parse(s); e != wantE || !plainSame(got, want) {
		t.Errorf("Parse(%.80q): %+v, %d; want %+v, %d", s, got, e, want, wantE)
	}
}

// wantText fails if s and v are not each other's text and value.
func wantText(t *testing.T, v api.Value, s string) {
	t.Helper()
	wantParse(t, s, v, api.OK)
	if got := json.Print(v); got != s {
		t.Errorf("Print(%+v): %.80q; want %.80q", v, got, s)
	}
	if !json.Good(v) {
		t.Errorf("Good(%+v): false", v)
	}
}

// wantBad fails if v is good, or has a text.
func wantBad(t *testing.T, v api.Value) {
	t.Helper()
	if json.Good(v) {
		t.Errorf("Good(%+v): true", v)
	}
	if got := json.Print(v); got != "" {
		t.Errorf("Print(%+v): %q; want nothing", v, got)
	}
}

// P5.1: values of each kind, and their texts, both ways.
func TestText(t *testing.T) {
	for _, x := range []struct {
		v api.Value
		s string
	}{
		{object([]string{"a"}, list(num(1), boolean(1))), `{"a":[1,true]}`},
		{null(), "null"},
		{boolean(1), "true"},
		{boolean(0), "false"},
		{num(0), "0"},
		{num(7), "7"},
		{num(-1), "-1"},
		{num(10), "10"},
		{num(-1234567890), "-1234567890"},
		{num(far - 1), "9007199254740991"},
		{num(far), "9007199254740992"},
		{num(-far), "-9007199254740992"},
		{text(""), `""`},
		{text("a b"), `"a b"`},
		{text("null"), `"null"`},
		{text(`"\/`), `"\"\\/"`},
		{text(`\u0041`), `"\\u0041"`},
		{text("\x00\t\n\x1f\x20\x7f"), `"\u0000\u0009\u000a\u001f ` + "\x7f\""},
		{text("\xc3\xa9\xff"), "\"\xc3\xa9\xff\""},
		{text("[1,{}]"), `"[1,{}]"`},
		{list(), "[]"},
		{list(null()), "[null]"},
		{list(num(1), num(1)), "[1,1]"},
		{list(boolean(0), list(), object(nil), text(",")), `[false,[],{},","]`},
		{object(nil), "{}"},
		{object([]string{""}, text("")), `{"":""}`},
		{object([]string{"b", "a", "A"}, num(1), num(2), num(1)), `{"b":1,"a":2,"A":1}`},
		{object([]string{"\"\n\xff:"}, null()), `{"\"\u000a` + "\xff" + `:":null}`},
		{object([]string{"a"}, object([]string{"a"}, object(nil))), `{"a":{"a":{}}}`},
		{list(object([]string{"a"}, num(1)), object([]string{"a"}, num(1))), `[{"a":1},{"a":1}]`},
	} {
		wantText(t, x.v, x.s)
	}
	// Nil and empty lists are the same.
	wantText(t, api.Value{Kind: api.Num, Num: 1, List: []api.Value{}, Keys: []string{}}, "1")
	wantText(t, api.Value{Kind: api.List, List: []api.Value{}, Keys: []string{}}, "[]")
	wantText(t, api.Value{Kind: api.Object, List: []api.Value{}, Keys: []string{}}, "{}")
}

// P5.1: each byte in a text and in a key: as it is, behind a \, or by its digits, and in no other way.
func TestEachByte(t *testing.T) {
	for i := range 256 {
		c := string([]byte{byte(i)})
		want := c
		switch {
		case i == '"' || i == '\\':
			want = `\` + c
		case i < 32:
			want = fmt.Sprintf(`\u%04x`, i)
		}
		wantText(t, text(c), `"`+want+`"`)
		wantText(t, text("z"+c+"z"), `"z`+want+`z"`)
		wantText(t, object([]string{c}, text(c)), `{"`+want+`":"`+want+`"}`)
		for _, other := range []string{c, `\` + c, fmt.Sprintf(`\u%04x`, i), fmt.Sprintf(`\u%04X`, i), fmt.Sprintf(`\U%04x`, i), fmt.Sprintf(`\x%02x`, i), fmt.Sprintf(`\u%03x`, i)} {
			if other != want {
				wantParse(t, `"`+other+`"`, api.Value{}, api.ErrForm)
				wantParse(t, `"z`+other+`z"`, api.Value{}, api.ErrForm)
				wantParse(t, `{"`+other+`":1}`, api.Value{}, api.ErrForm)
			}
		}
	}
	for i := range 1 << 16 {
		s := fmt.Sprintf(`"\u%04x"`, i)
		if _, e := json.Parse(s); (e == api.OK) != (i < 32) {
			t.Fatalf("Parse(%q): %d", s, e)
		}
	}
}

// P5.1: what is no good value's text.
func TestParseWrongForm(t *testing.T) {
	for _, s := range []string{
		// Blanks, ahead, behind and within.
		" ", "\n", " 1", "1 ", "1\n", "[ ]", "[1, 2]", "[1 ,2]", "[ 1]", "[1 ]", "{ }", `{ "a":1}`, `{"a" :1}`, `{"a": 1}`, `{"a":1 }`, `{"a":1, "b":2}`, "\ufeff1", "\x001", "1\x00",
		// Words.
		"n", "nul", "nulll", "Null", "NULL", "True", "tru", "truee", "fals", "falsee", "t", "f", "null,", "nullnull", "truefalse", "undefined", "NaN", "Infinity", "-Infinity",
		// Numbers.
		"00", "01", "-0", "-00", "-01", "-", "--1", "-1-", "1-", "1-1", "+1", "+0", "1.5", "1.0", "1.", ".5", "1e2", "1E2", "0x1", "1_0", "1a", "a", "१",
		"9007199254740993", "-9007199254740993", "9223372036854775807", "-9223372036854775808", "9223372036854775808", "18446744073709551616", "18446744073709551617", "99999999999999999999999", "-99999999999999999999999", strings.Repeat("1", 4000), strings.Repeat("0", 4000),
		// Texts.
		`"`, `"a`, `a"`, `'a'`, `"""`, `"a"b`, `"a""b"`, `"\"`, `"\`, `"\a"`, `"\'"`, `"\/"`, `"\n"`, `"\u"`, `"\u0"`, `"\u00"`, `"\u000"`, `"\u0000`, `"\u000A"`, `"\u00000"x`, `"\u0020"`, `"\u0022"`, `"\u005c"`, `"\u0100"`, `"\u1000"`, `"\u00g0"`, `"\u001g"`, "\"\n\"", "\"\x00\"", "\"\x1f\"",
		// Lists.
		"[", "]", "[]]", "[[]", "[]]", "][", "[,]", "[1,]", "[,1]", "[1,,2]", "[1 2]", "[1", "[1,", "[1,2", "(1)", "[}", "[1}", "[]1", "[],[]", `["a":1]`, "[1.5]", "[01]", "[null", "[nul]",
		// Objects.
		"{", "}", "{}}", "{{}", "{]", "{,}", `{"a"}`, `{"a":}`, `{"a":1,}`, `{,"a":1}`, `{"a":1`, `{"a":1,`, `{"a":`, `{"a"`, `{"a`, `{"a":1]`, `{"a",1}`, `{"a"1}`, `{"a"::1}`, `{a:1}`, `{1:1}`, `{null:1}`, `{[]:1}`, `{"a":1"b":2}`, `{"a":1,"b"}`, `{"a":1,"b":}`, `{"a":1,,"b":2}`, `{"a":1;"b":2}`, `{"a"=1}`, `{}{}`, `{}:`, `{:}`, `{:1}`,
		// Keys that are there twice, at any depth, and with the same value.
		`{"a":1,"a":2}`, `{"a":1,"a":1}`, `{"":1,"":1}`, `{"a":1,"b":2,"a":3}`, `[{"a":{"b":1,"b":1}}]`, `{"\u000a":1,"\u000a":2}`, `{"\"":1,"\"":2}`,
		// No JSON.
		"", ",", ":", "//1", "1//", "/**/1", "1;", "1,2", "#",
	} {
		wantParse(t, s, api.Value{}, api.ErrForm)
		if s != "" && s != "," && s != "1,2" && s != "],[" && s != "[],[]" && s != "]" && s != "}" {
			wantParse(t, "["+s+"]", api.Value{}, api.ErrForm)
			wantParse(t, `{"k":`+s+`}`, api.Value{}, api.ErrForm)
		}
	}
}

// outsideParse says what Parse should of a short text of valid UTF-8, by another program's tokens: it is a value's text, if it is what that value is printed as.
func outsideParse(s string) (api.Value, bool) {
	d := outside.NewDecoder(strings.NewReader(s))
	d.UseNumber()
	v, ok := outsideValue(d)
	return v, ok && plainText(v) == s
}

func outsideValue(d *outside.Decoder) (api.Value, bool) {
	token, err := d.Token()
	if err != nil {
		return api.Value{}, false
	}
	switch x := token.(type) {
	case nil:
		return null(), true
	case bool:
		if x {
			return boolean(1), true
		}
		return boolean(0), true
	case outside.Number:
		n, err := x.Int64()
		return num(n), err == nil && -far <= n && n <= far
	case string:
		return text(x), true
	case outside.Delim:
		return outsideGroup(d, x)
	}
	return api.Value{}, false
}

func outsideGroup(d *outside.Decoder, begin outside.Delim) (api.Value, bool) {
	v := api.Value{Kind: api.List}
	if begin == '{' {
		v.Kind = api.Object
	}
	for d.More() {
		if begin == '{' {
			token, err := d.Token()
			key, ok := token.(string)
			if err != nil || !ok || slices.Contains(v.Keys, key) {
				return api.Value{}, false
			}
			v.Keys = append(v.Keys, key)
		}
		item, ok := outsideValue(d)
		if !ok {
			return api.Value{}, false
		}
		v.List = append(v.List, item)
	}
	_, err := d.Token()
	return v, err == nil
}

// plainText prints a value without looking whether it is good.
func plainText(v api.Value) string {
	switch v.Kind {
	case api.Null:
		return "null"
	case api.Bool:
		return []string{"false", "true"}[v.Num]
	case api.Num:
		return strconv.FormatInt(v.Num, 10)
	case api.Text:
		s := strings.NewReplacer(`\`, `\\`, `"`, `\"`).Replace(v.Text)
		for i := range 32 {
			s = strings.ReplaceAll(s, string(rune(i)), fmt.Sprintf(`\u%04x`, i))
		}
		return `"` + s + `"`
	}
	var parts []string
	for i, x := range v.List {
		part := plainText(x)
		if v.Kind == api.Object {
			part = plainText(text(v.Keys[i])) + ":" + part
		}
		parts = append(parts, part)
	}
	if v.Kind == api.Object {
		return "{" + strings.Join(parts, ",") + "}"
	}
	return "[" + strings.Join(parts, ",") + "]"
}

// P5.1: Parse of every short text of the bytes that count.
func TestParseEach(t *testing.T) {
	check := func(s string) {
		want, ok := outsideParse(s)
		wantE := api.OK
		if !ok {
			want, wantE = api.Value{}, api.ErrForm
		}
		if got, e := json.Parse(s); e != wantE || !plainSame(got, want) {
			t.Fatalf("Parse(%q): %+v, %d; want %+v, %d", s, got, e, want, wantE)
		}
	}
	short.Texts(`[]{}",:\0-1 `, 4, check)
	short.Texts("[]{},1", 5, check)
	short.Texts("-0129.e", 5, check)
	short.Texts("\"\\u01f\n", 5, check)
	short.Texts(`":,a0}`, 5, func(s string) { check(`{"` + s); check(`{"` + s + "}") })
	short.Texts("u01fF", 5, func(s string) { check(`"\` + s + `"`) })
	short.Texts("[],1", 6, func(s string) { check("[" + s + "]") })
}

// P5.1: MaxText bytes are no error, one more is, and that ahead of what else is wrong.
func TestParseLarge(t *testing.T) {
	whole := `"` + strings.Repeat("a", api.MaxText-2) + `"`
	wantText(t, text(whole[1:api.MaxText-1]), whole)
	wantParse(t, whole[:api.MaxText-1]+`a"`, api.Value{}, api.ErrLarge)
	wantParse(t, whole+" ", api.Value{}, api.ErrLarge)
	wantParse(t, whole[:api.MaxText-1]+"a", api.Value{}, api.ErrForm)
	for _, s := range []string{" ", "[", "]", "1", "0", "\"", "\\", "{", ","} {
		wantParse(t, strings.Repeat(s, api.MaxText), api.Value{}, api.ErrForm)
		wantParse(t, strings.Repeat(s, api.MaxText+1), api.Value{}, api.ErrLarge)
	}
	wantParse(t, nestText(api.MaxText/2, ""), api.Value{}, api.ErrDeep)
	wantParse(t, nestText(api.MaxText/2, "1"), api.Value{}, api.ErrLarge)
	wantParse(t, nestText(api.MaxText/2+1, ""), api.Value{}, api.ErrLarge)
	// The bytes as they stand count; and Print and Good know no such limit.
	wantParse(t, `"`+strings.Repeat(`\"`, api.MaxText/2)+`"`, api.Value{}, api.ErrLarge)
	long := strings.Repeat("a", 3*api.MaxText)
	if got := json.Print(text(long)); got != `"`+long+`"` {
		t.Errorf("Print of %d bytes: %d bytes", len(long), len(got))
	}
}

// P5.1: MaxDeep levels are no error, one more is, by lists, objects, and whatever stands in the last.
func TestDeep(t *testing.T) {
	for _, v := range []api.Value{list(), object(nil), null(), num(1), text("a"), text("[[[["), boolean(0)} {
		s := plainText(v)
		for n := range api.MaxDeep {
			wantText(t, nest(n, v), nestText(n, s))
		}
		for _, n := range []int{api.MaxDeep, api.MaxDeep + 1, 100, 1000} {
			wantBad(t, nest(n, v))
			wantParse(t, nestText(n, s), api.Value{}, api.ErrDeep)
		}
	}
	in := object(nil)
	for range api.MaxDeep - 1 {
		in = object([]string{"a", "b"}, num(1), in)
	}
	wantText(t, in, strings.Repeat(`{"a":1,"b":`, api.MaxDeep-1)+"{}"+strings.Repeat("}", api.MaxDeep-1))
	wantBad(t, list(in))
	wantBad(t, list(num(1), in, num(2)))
	wantBad(t, object([]string{"k"}, in))
	wantParse(t, "["+json.Print(in)+"]", api.Value{}, api.ErrDeep)
	wantParse(t, "[1,"+json.Print(in)+",2]", api.Value{}, api.ErrDeep)
	wantParse(t, `{"k":`+json.Print(in)+"}", api.Value{}, api.ErrDeep)
	// What is wide is not deep.
	wide := nest(api.MaxDeep-2, num(1))
	wantText(t, list(wide, wide, wide), "["+nestText(6, "1")+","+nestText(6, "1")+","+nestText(6, "1")+"]")
}

// P5.1: what is too deep and wrong besides has ErrForm, wherever that stands.
func TestDeepWrongForm(t *testing.T) {
	deep := nestText(api.MaxDeep, "1")
	wantParse(t, deep, api.Value{}, api.ErrDeep)
	for _, s := range []string{
		strings.Repeat("[", 9), strings.Repeat("[", 4000), deep + "]", deep + " ", " " + deep, "[" + deep, deep + deep, deep[1:],
		nestText(8, "1.5"), nestText(8, "-0"), nestText(8, " "), nestText(8, `"\n"`), nestText(8, `{"a":1,"a":1}`), nestText(8, "9007199254740993"), nestText(2000, "01"),
		"[" + deep + ",01]", "[01," + deep + "]", `{"a":` + deep + `,"a":1}`, `{"a":1,"a":` + deep + "}", `{"a":` + deep + ",}",
		nestText(8, strings.Repeat("1,", api.MaxItems)+"1"), "[" + deep + strings.Repeat(",1", api.MaxItems) + "]",
	} {
		wantParse(t, s, api.Value{}, api.ErrForm)
	}
	wantParse(t, "["+deep+strings.Repeat(",1", api.MaxItems-1)+"]", api.Value{}, api.ErrDeep)
}

// P5.1: MaxItems in a list and in an object are good, one more is not.
func TestItems(t *testing.T) {
	var items []api.Value
	var keys, parts []string
	for i := range api.MaxItems {
		n := strconv.Itoa(i)
		items, keys = append(items, num(int64(i))), append(keys, n)
		parts = append(parts, `"`+n+`":`+n)
	}
	wantText(t, list(items...), "["+strings.Join(keys, ",")+"]")
	wantText(t, object(keys, items...), "{"+strings.Join(parts, ",")+"}")
	wantText(t, list(list(items...), list(items...)), "[["+strings.Join(keys, ",")+"],["+strings.Join(keys, ",")+"]]")
	more, moreKeys := append(slices.Clip(items), null()), append(slices.Clip(keys), "k")
	for _, v := range []api.Value{list(more...), object(moreKeys, more...)} {
		for _, w := range []api.Value{v, list(v), list(num(1), v), object([]string{"a"}, v)} {
			wantBad(t, w)
			wantParse(t, plainText(w), api.Value{}, api.ErrForm)
		}
	}
	// Two keys that are the same, wherever they stand among many.
	for i := range keys {
		for k := range i {
			same := slices.Clone(keys)
			same[i] = keys[k]
			if json.Good(object(same, items...)) {
				t.Fatalf("Good with the same keys at %d and %d", k, i)
			}
		}
	}
}

// P5.1: what is not good: each field beyond what its kind has.
func TestBad(t *testing.T) {
	for _, kind := range []int{0, -1, 7, 8, math.MinInt, math.MaxInt, 1 << 32, 1<<32 + api.Null} {
		wantBad(t, api.Value{Kind: kind})
		wantBad(t, list(api.Value{Kind: kind}))
	}
	good := []api.Value{null(), boolean(0), boolean(1), num(0), num(-5), text(""), text("a"), list(), list(null()), object(nil), object([]string{"a"}, null())}
	for _, v := range good {
		wantText(t, v, plainText(v))
		for _, n := range []int64{-1, 1, 2, math.MinInt64, math.MaxInt64, 256, 1 << 32, far + 1, -far - 1} {
			w := v
			w.Num = n
			fits := v.Kind == api.Bool && n == 1 || v.Kind == api.Num && -far <= n && n <= far
			if json.Good(w) != fits {
				t.Errorf("Good(%+v): %t", w, !fits)
			}
		}
		for _, s := range []string{"a", "\x00", " "} {
			if w := v; v.Kind != api.Text {
				w.Text = s
				wantBad(t, w)
				wantBad(t, list(w))
			}
		}
		for _, items := range [][]api.Value{{null()}, {num(1), num(2)}} {
			if w := v; v.Kind != api.List {
				w.List = items
				if len(items) != len(w.Keys) {
					wantBad(t, w)
					wantBad(t, object([]string{"k"}, w))
				}
			}
		}
		for _, keys := range [][]string{{"a"}, {""}, {"a", "b"}, {"a", "a"}} {
			if w := v; v.Kind != api.Object || len(keys) != len(v.List) {
				w.Keys = keys
				wantBad(t, w)
				wantBad(t, list(null(), w))
			}
		}
	}
	wantBad(t, object([]string{"a"}))
	wantBad(t, object(nil, null()))
	wantBad(t, object([]string{"a"}, null(), null()))
	wantBad(t, object([]string{"a", "b"}, null()))
	wantBad(t, object([]string{"a", "a"}, null(), null()))
	wantBad(t, object([]string{"a", "b", "a"}, null(), null(), null()))
	// Each in it is good, wherever it stands.
	for _, bad := range []api.Value{{}, num(far + 1), boolean(2), {Kind: api.Null, Num: 1}, object([]string{"a"}), {Kind: api.Text, Num: 1}} {
		for _, v := range []api.Value{bad, list(bad), list(null(), bad), list(bad, null()), list(list(), list(null(), list(bad))), object([]string{"a", "b"}, null(), bad), object([]string{"a", "b"}, bad, null())} {
			wantBad(t, v)
		}
	}
}

// some are values with few unlike ones among them.
func some() []api.Value {
	return []api.Value{
		{}, {Kind: 9}, null(), boolean(0), boolean(1), num(0), num(1), num(-1), num(math.MinInt64), text(""), text("a"), text("b"), text("1"),
		list(), list(null()), list(num(1)), list(num(1), num(2)), list(num(2), num(1)), list(num(1), num(2), num(3)), list(list()), list(list(list())), list(object(nil)),
		object(nil), object([]string{"a"}, num(1)), object([]string{"b"}, num(1)), object([]string{"a"}, num(2)), object([]string{"a", "b"}, num(1), num(1)), object([]string{"b", "a"}, num(1), num(1)),
		object([]string{"a", "b"}, num(1), num(2)), object([]string{"b", "a"}, num(2), num(1)), object([]string{"a"}), object(nil, num(1)), object([]string{"a", "a"}, num(1), num(2)),
		{Kind: api.Null, Num: 1}, {Kind: api.Null, Text: "a"}, {Kind: api.Null, Keys: []string{"a"}}, {Kind: api.Null, List: []api.Value{null()}}, {Kind: api.Text, Num: 1, Text: "a"}, {Kind: api.List, Keys: []string{"a"}},
		{Kind: api.Object, List: []api.Value{list(num(1))}, Keys: []string{"a"}}, {Kind: api.Object, List: []api.Value{list(num(2))}, Keys: []string{"a"}},
	}
}

// P5.1: Same of any two values, good or not: each is the same as itself alone, at any depth.
func TestSame(t *testing.T) {
	all, again := some(), some()
	for i, a := range all {
		for k, b := range again {
			for _, x := range [][2]api.Value{{a, b}, {list(a), list(b)}, {list(null(), a), list(null(), b)}, {object([]string{"k"}, a, null()), object([]string{"k"}, b, null())}, {nest(20, a), nest(20, b)}} {
				if got := json.Same(x[0], x[1]); got != (i == k) {
					t.Errorf("Same(%+v, %+v): %t", x[0], x[1], got)
				}
			}
		}
	}
	empty := func(v api.Value) api.Value {
		v.List, v.Keys = []api.Value{}, []string{}
		return v
	}
	for _, v := range []api.Value{{}, null(), num(1), text("a"), list(), object(nil)} {
		if !json.Same(v, empty(v)) || !json.Same(empty(v), v) || !json.Same(list(v), list(empty(v))) {
			t.Errorf("Same: %+v is another with empty lists", v)
		}
	}
	if json.Same(list(), list(null())) || json.Same(list(null()), list()) || json.Same(list(null(), null()), list(null())) {
		t.Error("Same: lists of other lengths")
	}
	// Neither spare room nor length beyond counts.
	long := []api.Value{num(1), num(2)}
	if !json.Same(list(long[:1]...), list(num(1))) {
		t.Error("Same: spare room")
	}
}

// P5.1: Field of an object, the first one's of a key that is there twice; none of anything else.
func TestField(t *testing.T) {
	o := object([]string{"b", "a", "", "\xff", "c", "b"}, num(1), text("x"), null(), list(num(2)), object([]string{"d"}, num(3)), num(4))
	for _, x := range []struct {
		v    api.Value
		key  string
		want api.Value
		ok   bool
	}{
		{o, "b", num(1), true},
		{o, "a", text("x"), true},
		{o, "", null(), true},
		{o, "\xff", list(num(2)), true},
		{o, "c", object([]string{"d"}, num(3)), true},
		{o, "d", api.Value{}, false},
		{o, "B", api.Value{}, false},
		{o, "bb", api.Value{}, false},
		{o, "b ", api.Value{}, false},
		{o, "1", api.Value{}, false},
		{o, "x", api.Value{}, false},
		{object(nil), "", api.Value{}, false},
		{object(nil), "a", api.Value{}, false},
		{object([]string{"a"}, api.Value{}), "a", api.Value{}, true},
		// What is no object has no fields, whatever is in it.
		{api.Value{}, "", api.Value{}, false},
		{null(), "", api.Value{}, false},
		{text("a"), "a", api.Value{}, false},
		{list(object([]string{"a"}, num(1))), "a", api.Value{}, false},
		{api.Value{Kind: api.List, Keys: []string{"a"}, List: []api.Value{num(1)}}, "a", api.Value{}, false},
		{api.Value{Kind: 7, Keys: []string{"a"}, List: []api.Value{num(1)}}, "a", api.Value{}, false},
		{api.Value{Keys: []string{"a"}, List: []api.Value{num(1)}}, "a", api.Value{}, false},
		// Objects that are not good.
		{object([]string{"a"}), "a", api.Value{}, false},
		{object([]string{"a", "b"}, num(1)), "b", api.Value{}, false},
		{object([]string{"a", "b"}, num(1)), "a", num(1), true},
		{object([]string{"a"}, num(1), num(2)), "a", num(1), true},
		{object(nil, num(1)), "", api.Value{}, false},
		{object([]string{"a", "a"}, num(far+1), num(2)), "a", num(far + 1), true},
		{api.Value{Kind: api.Object, Num: 1, Text: "t", Keys: []string{"a"}, List: []api.Value{nest(99, num(1))}}, "a", nest(99, num(1)), true},
	} {
		if got, ok := json.Field(x.v, x.key); ok != x.ok || !plainSame(got, x.want) {
			t.Errorf("Field(%+v, %q): %+v, %t; want %+v, %t", x.v, x.key, got, ok, x.want, x.ok)
		}
	}
}

// P5.1: Object of any number of pairs, in order, of each key the first one.
func TestObject(t *testing.T) {
	for _, x := range []struct {
		list []api.Pair
		want api.Value
	}{
		{nil, object(nil)},
		{[]api.Pair{}, object(nil)},
		{[]api.Pair{{}}, object([]string{""}, text(""))},
		{[]api.Pair{{}, {Value: "a"}}, object([]string{""}, text(""))},
		{[]api.Pair{{Key: "b", Value: "1"}, {Key: "a", Value: "2"}}, object([]string{"b", "a"}, text("1"), text("2"))},
		{[]api.Pair{{Key: "a", Value: "1"}, {Key: "a", Value: "2"}, {Key: "b", Value: "1"}, {Key: "a", Value: "1"}, {Key: "c"}}, object([]string{"a", "b", "c"}, text("1"), text("1"), text(""))},
		{[]api.Pair{{Key: "a"}, {Key: "A"}, {Key: "a "}, {Key: "\xff", Value: "\x00"}}, object([]string{"a", "A", "a ", "\xff"}, text(""), text(""), text(""), text("\x00"))},
	} {
		if got := json.Object(x.list...); !plainSame(got, x.want) {
			t.Errorf("Object(%q): %+v; want %+v", x.list, got, x.want)
		}
	}
	if got := json.Print(json.Object(api.Pair{Key: "a", Value: "\n"}, api.Pair{Key: "b", Value: `"`})); got != `{"a":"\u000a","b":"\""}` {
		t.Errorf("Object, printed: %q", got)
	}
	// Object knows no limit; that of a good value is left to Good.
	var many []api.Pair
	for i := range 3 * api.MaxItems {
		many = append(many, api.Pair{Key: strconv.Itoa(i % (2 * api.MaxItems)), Value: strconv.Itoa(i)})
	}
	got := json.Object(many...)
	if len(got.Keys) != 2*api.MaxItems || len(got.List) != 2*api.MaxItems || json.Good(got) || !json.Good(json.Object(many[:api.MaxItems]...)) {
		t.Errorf("Object of many: %d keys, %d values", len(got.Keys), len(got.List))
	}
	for i, k := range got.Keys {
		if k != many[i].Key || got.List[i].Text != many[i].Value {
			t.Fatalf("Object of many: at %d %q, %q", i, k, got.List[i].Text)
		}
	}
}

// R8: what is as deep as anything is promised for, and a list that holds itself: every call ends.
func TestEnds(t *testing.T) {
	most := nest(1<<16, num(1))
	if json.Good(most) || json.Print(most) != "" || !json.Same(most, nest(1<<16, num(1))) || json.Same(most, nest(1<<16, num(2))) {
		t.Error("Good, Print or Same of what is deep")
	}
	if got, ok := json.Field(object([]string{"a"}, most.List[0]), "a"); !ok || !json.Same(got, most.List[0]) {
		t.Error("Field of what is deep")
	}
	self := list(num(1), num(2), num(3))
	self.List[1], self.List[2] = self, self
	wantEnd := object([]string{"a", "b"}, self, num(1))
	if json.Good(self) || json.Print(self) != "" || json.Good(wantEnd) {
		t.Error("a list that holds itself is good")
	}
	json.Same(self, self)
	json.Field(wantEnd, "a")
	if got, ok := json.Field(wantEnd, "b"); !ok || !plainSame(got, num(1)) {
		t.Error("Field beside a list that holds itself")
	}
}

// hold calls f with every list of keys and of values of v, the spare room included.
func hold(v api.Value, f func(keys []string, items []api.Value)) {
	for _, x := range v.List {
		hold(x, f)
	}
	f(v.Keys[:cap(v.Keys)], v.List[:cap(v.List)])
}

// R4: no call changes what it is given, or its spare room; and no two answers share memory, or any with what was handed in.
func TestMemory(t *testing.T) {
	const s = `{"a":[1,{"b":[2,"x"],"c":{}}],"d":null}`
	v, _ := json.Parse(s)
	spare := append(make([]api.Value, 0, 9), v.List...)
	spareKeys := append(make([]string, 0, 9), v.Keys...)
	v.List, v.Keys = spare, spareKeys
	one, _ := json.Field(v, "a")
	two, _ := json.Field(v, "a")
	json.Good(v)
	json.Same(v, v)
	if json.Print(v) != s || !slices.Equal(spareKeys[:9][2:], make([]string, 7)) || !plainSame(list(spare[:9][2:]...), list(make([]api.Value, 7)...)) {
		t.Errorf("what was handed in is %+v", v)
	}
	wipe := func(keys []string, items []api.Value) { clear(keys); clear(items) }
	hold(one, wipe)
	if json.Print(v) != s || json.Print(two) != `[1,{"b":[2,"x"],"c":{}}]` {
		t.Errorf("an answer of Field changed with another: %s, %s", json.Print(v), json.Print(two))
	}
	hold(v, wipe)
	if json.Print(two) != `[1,{"b":[2,"x"],"c":{}}]` {
		t.Errorf("an answer of Field changed with its object: %s", json.Print(two))
	}
	again, _ := json.Parse(s)
	third, _ := json.Parse(s)
	hold(again, wipe)
	if json.Print(third) != s {
		t.Errorf("an answer of Parse changed with another: %s", json.Print(third))
	}
	pairs := []api.Pair{{Key: "a", Value: "1"}, {Key: "a", Value: "2"}, {Key: "spare", Value: "room"}}
	kept := slices.Clone(pairs)
	first, second := json.Object(pairs[:2]...), json.Object(pairs[:2]...)
	hold(first, wipe)
	if !slices.Equal(pairs, kept) || json.Print(second) != `{"a":"1"}` {
		t.Errorf("Object: %q, %s", pairs, json.Print(second))
	}
}

// R5: what a call answers hangs on nothing that was called before.
func TestAgain(t *testing.T) {
	for range 2 {
		for _, s := range []string{`{"b":1,"a":[true]}`, `{"a":1,"b":2}`, "[", nestText(9, ""), strings.Repeat("1", api.MaxText+1)} {
			one, e := json.Parse(s)
			two, again := json.Parse(s)
			if e != again || !plainSame(one, two) || json.Print(one) != json.Print(two) {
				t.Errorf("Parse(%.40q): %+v, %d; again %+v, %d", s, one, e, two, again)
			}
		}
	}
}
