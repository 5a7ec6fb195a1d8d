package pairs_test

import (
	"slices"
	"strconv"
	"strings"
	"testing"

	"exequatur/api"
	"exequatur/pairs"
	"exequatur/short"
)

func wantParse(t *testing.T, s string, want []api.Pair, wantE api.Errno) {
	t.Helper()
	got, e := pairs.Parse(s)
	if e != wantE || !slices.Equal(got, want) {
		t.Errorf("Parse(%.80q): %q, %d; want %q, %d", s, got, e, want, wantE)
	}
}

// lists calls f with every list of at most n pairs, with keys and values out of these.
func lists(keys, values []string, n int, f func(list []api.Pair)) {
	var grow func(list []api.Pair)
	grow = func(list []api.Pair) {
		f(list)
		if len(list) == n {
			return
		}
		for _, k := range keys {
			for _, v := range values {
				grow(append(slices.Clip(list), api.Pair{Key: k, Value: v}))
			}
		}
	}
	grow(nil)
}

// P2.1: Parse of forms as they come, and at their edges.
func TestParse(t *testing.T) {
	for _, x := range []struct {
		s    string
		want []api.Pair
	}{
		{"", nil},
		{"a=1&b", []api.Pair{{Key: "a", Value: "1"}, {Key: "b"}}},
		{"a=1", []api.Pair{{Key: "a", Value: "1"}}},
		{"a=1&b=2&c=3", []api.Pair{{Key: "a", Value: "1"}, {Key: "b", Value: "2"}, {Key: "c", Value: "3"}}},
		{"c=3&a=1&b=2", []api.Pair{{Key: "c", Value: "3"}, {Key: "a", Value: "1"}, {Key: "b", Value: "2"}}},
		// Empty parts.
		{"&", nil},
		{"&&&", nil},
		{"&a", []api.Pair{{Key: "a"}}},
		{"a&", []api.Pair{{Key: "a"}}},
		{"&&a=1&&&b=2&&", []api.Pair{{Key: "a", Value: "1"}, {Key: "b", Value: "2"}}},
		// The first = alone ends the key, and a part of an = is not empty.
		{"=", []api.Pair{{}}},
		{"=&=", []api.Pair{{}, {}}},
		{"=v", []api.Pair{{Value: "v"}}},
		{"k=", []api.Pair{{Key: "k"}}},
		{"a==", []api.Pair{{Key: "a", Value: "="}}},
		{"a=b=c", []api.Pair{{Key: "a", Value: "b=c"}}},
		{"==a", []api.Pair{{Value: "=a"}}},
		// Both are unquoted, and only behind the cutting.
		{"a+b=c+d", []api.Pair{{Key: "a b", Value: "c d"}}},
		{"%61=%62", []api.Pair{{Key: "a", Value: "b"}}},
		{"a%3Db=c%3dd", []api.Pair{{Key: "a=b", Value: "c=d"}}},
		{"a%26b=c%26d", []api.Pair{{Key: "a&b", Value: "c&d"}}},
		{"a%3Db", []api.Pair{{Key: "a=b"}}},
		{"%2526=%253D", []api.Pair{{Key: "%26", Value: "%3D"}}},
		{"+=+", []api.Pair{{Key: " ", Value: " "}}},
		{"%00=%fF", []api.Pair{{Key: "\x00", Value: "\xff"}}},
		// Same keys stay, each at its place.
		{"a=1&a=2&A=3&a=1", []api.Pair{{Key: "a", Value: "1"}, {Key: "a", Value: "2"}, {Key: "A", Value: "3"}, {Key: "a", Value: "1"}}},
		// What has no meaning in a form stands as it is.
		{"a;b=c;d#?/", []api.Pair{{Key: "a;b", Value: "c;d#?/"}}},
		{" a = b \n&\xff=\x00", []api.Pair{{Key: " a ", Value: " b \n"}, {Key: "\xff", Value: "\x00"}}},
	} {
		wantParse(t, x.s, x.want, api.OK)
	}
}

// P2.1: a part that can't be unquoted, in its key or its value, first, last or in the middle.
func TestParseWrongForm(t *testing.T) {
	for _, part := range []string{
		"%", "%=", "=%", "%=%", "%2", "%zz", "a=%", "a=%2", "a=%g0", "a=%0g", "a%=b", "a%4=b", "%xa=b", "a=b=%", "a=b%", "a=%%41",
		"%4=1", "a=%4=1", "a%=41",
	} {
		for _, s := range []string{part, part + "&b=2", "a=1&" + part, "a=1&" + part + "&b=2", "&&" + part + "&"} {
			wantParse(t, s, nil, api.ErrForm)
		}
	}
	// The & cuts first: what stands behind it does not end a %.
	wantParse(t, "a=%&41", nil, api.ErrForm)
	wantParse(t, "a=%4&1", nil, api.ErrForm)
}

// P2.1: MaxText bytes are no error, one more is, and that ahead of what else is wrong.
func TestParseBytes(t *testing.T) {
	whole := "a=" + strings.Repeat("b", api.MaxText-2)
	wantParse(t, whole, []api.Pair{{Key: "a", Value: whole[2:]}}, api.OK)
	wantParse(t, whole+"b", nil, api.ErrLarge)
	wantParse(t, strings.Repeat("&", api.MaxText), nil, api.OK)
	wantParse(t, strings.Repeat("&", api.MaxText+1), nil, api.ErrLarge)
	// The bytes as they stand count, not those that they stand for.
	quoted := strings.Repeat("%41", api.MaxText/3)
	wantParse(t, quoted+"=", []api.Pair{{Key: strings.Repeat("A", api.MaxText/3)}}, api.OK)
	wantParse(t, quoted+"%41", nil, api.ErrLarge)
	wantParse(t, whole[:api.MaxText-1]+"%", nil, api.ErrForm)
	wantParse(t, whole+"%", nil, api.ErrLarge)
	wantParse(t, "%"+whole, nil, api.ErrLarge)
}

// P2.1: MaxItems pairs are no error, one more is, but not ahead of a part that is none.
func TestParseItems(t *testing.T) {
	var want []api.Pair
	var some []string
	for i := range api.MaxItems {
		n := strconv.Itoa(i)
		want = append(want, api.Pair{Key: "k" + n, Value: n})
		some = append(some, "k"+n+"="+n)
	}
	s := strings.Join(some, "&")
	wantParse(t, s, want, api.OK)
	wantParse(t, "&&"+strings.Join(some, "&&")+"&&", want, api.OK)
	for _, more := range []string{"a=1", "a", "=", "=v", "k0=0"} {
		wantParse(t, s+"&"+more, nil, api.ErrLarge)
		wantParse(t, more+"&"+s, nil, api.ErrLarge)
	}
	for _, wrong := range []string{"%", "a=%", "%2=a"} {
		wantParse(t, s+"&"+wrong, nil, api.ErrForm)
		wantParse(t, s+"&a&"+wrong, nil, api.ErrForm)
		wantParse(t, s+"&a&"+wrong+"&b", nil, api.ErrForm)
		wantParse(t, wrong+"&"+s, nil, api.ErrForm)
	}
	wantParse(t, strings.Repeat("a&", api.MaxText/2), nil, api.ErrLarge)
	wantParse(t, strings.Repeat("a&", api.MaxText/2-1)+"a%", nil, api.ErrForm)
	// Keys that are the same are pairs of their own.
	wantParse(t, strings.Repeat("a&", api.MaxItems), slices.Repeat([]api.Pair{{Key: "a"}}, api.MaxItems), api.OK)
	wantParse(t, strings.Repeat("a&", api.MaxItems+1), nil, api.ErrLarge)
}

// plainParse says for short texts of & = a + % and digits what the chapter says, another way: byte by byte.
func plainParse(s string) ([]api.Pair, api.Errno) {
	var list []api.Pair
	var both [2]string
	at, empty := 0, true
	end := func() {
		if !empty {
			list = append(list, api.Pair{Key: both[0], Value: both[1]})
		}
		both, at, empty = [2]string{}, 0, true
	}
	for i := 0; i < len(s); i++ {
		switch {
		case s[i] == '&':
			end()
			continue
		case s[i] == '=' && at == 0:
			at = 1
		case s[i] == '+':
			both[at] += " "
		case s[i] == '%':
			if i+2 >= len(s) {
				return nil, api.ErrForm
			}
			n, err := strconv.ParseUint(s[i+1:i+3], 16, 8)
			if err != nil {
				return nil, api.ErrForm
			}
			both[at] += string([]byte{byte(n)})
			i += 2
		default:
			both[at] += s[i : i+1]
		}
		empty = false
	}
	end()
	return list, api.OK
}

// P2.1: Parse of every short text of the bytes that count in a form.
func TestParseEach(t *testing.T) {
	check := func(s string) {
		want, wantE := plainParse(s)
		if got, e := pairs.Parse(s); e != wantE || !slices.Equal(got, want) {
			t.Fatalf("Parse(%q): %q, %d; want %q, %d", s, got, e, want, wantE)
		}
	}
	short.Texts("&=a", 9, check)
	short.Texts("&=+%26", 6, check)
	short.Texts("&=%3Dd", 6, check)
}

// P2.1: Build of any number of pairs, with all that a form can't hold quoted in keys and values.
func TestBuild(t *testing.T) {
	for _, x := range []struct {
		list []api.Pair
		want string
	}{
		{nil, ""},
		{[]api.Pair{}, ""},
		{[]api.Pair{{}}, "="},
		{[]api.Pair{{}, {}}, "=&="},
		{[]api.Pair{{}, {}, {}}, "=&=&="},
		{[]api.Pair{{Key: "a", Value: "1"}}, "a=1"},
		{[]api.Pair{{Key: "a"}}, "a="},
		{[]api.Pair{{Value: "1"}}, "=1"},
		{[]api.Pair{{Key: "a", Value: "1"}, {Key: "b"}}, "a=1&b="},
		{[]api.Pair{{Key: "b", Value: "2"}, {Key: "a", Value: "1"}, {Key: "b", Value: "2"}}, "b=2&a=1&b=2"},
		{[]api.Pair{{Key: "a b", Value: "c d"}}, "a%20b=c%20d"},
		{[]api.Pair{{Key: "a=b&c", Value: "d=e&f"}}, "a%3Db%26c=d%3De%26f"},
		{[]api.Pair{{Key: "+%", Value: "%+"}}, "%2B%25=%25%2B"},
		{[]api.Pair{{Key: "-._~", Value: "~_.-"}}, "-._~=~_.-"},
		{[]api.Pair{{Key: "\x00\xff", Value: "\xc3\xa9\n"}}, "%00%FF=%C3%A9%0A"},
		{[]api.Pair{{Key: "redirect_uri", Value: "https://a/b?c"}}, "redirect_uri=https%3A%2F%2Fa%2Fb%3Fc"},
	} {
		if got := pairs.Build(x.list...); got != x.want {
			t.Errorf("Build(%q): %q; want %q", x.list, got, x.want)
		}
	}
	if got := pairs.Build(api.Pair{Key: "a", Value: "1"}, api.Pair{Key: "b", Value: "2"}); got != "a=1&b=2" {
		t.Errorf("Build of two: %q", got)
	}
	// Build knows no limit.
	many := slices.Repeat([]api.Pair{{Key: "k", Value: strings.Repeat("v", 99)}}, 1000)
	if got, want := pairs.Build(many...), strings.Repeat("&k="+strings.Repeat("v", 99), 1000)[1:]; got != want {
		t.Errorf("Build of 1000 pairs: %d bytes; want %d", len(got), len(want))
	}
}

// P2.1: Parse is Build's way back, at every byte and for all short lists.
func TestBuildParse(t *testing.T) {
	for i := range 256 {
		c := string([]byte{byte(i)})
		list := []api.Pair{{Key: c, Value: c}, {Key: c + "k", Value: "v" + c}}
		wantParse(t, pairs.Build(list...), list, api.OK)
	}
	some := []string{"", "a", "=", "&", "+", "%", " ", "%26", "\xff"}
	lists(some, some, 2, func(list []api.Pair) {
		wantParse(t, pairs.Build(list...), list, api.OK)
	})
	whole := slices.Repeat([]api.Pair{{Key: "k&", Value: "=v"}}, api.MaxItems)
	wantParse(t, pairs.Build(whole...), whole, api.OK)
}

// P2.1: Get answers the first one's value, by the key's very bytes.
func TestGet(t *testing.T) {
	list := []api.Pair{{Key: "b", Value: "1"}, {Key: "a", Value: "2"}, {Key: "b", Value: "3"}, {Key: "e"}, {Key: "e", Value: "4"}, {Key: "\xff\x00", Value: "\x00"}, {Key: "last", Value: "5"}}
	for _, x := range []struct {
		list []api.Pair
		key  string
		want string
		ok   bool
	}{
		{list, "b", "1", true},
		{list, "a", "2", true},
		{list, "e", "", true},
		{list, "\xff\x00", "\x00", true},
		{list, "last", "5", true},
		{list[1:], "b", "3", true},
		{list, "z", "", false},
		{list, "B", "", false},
		{list, "", "", false},
		{list, "las", "", false},
		{list, "lastt", "", false},
		{list, " b", "", false},
		{list, "%62", "", false},
		{list, "\xff", "", false},
		{list, "1", "", false},
		{nil, "a", "", false},
		{nil, "", "", false},
		{[]api.Pair{}, "", "", false},
		{[]api.Pair{{}}, "", "", true},
		{[]api.Pair{{Key: "a", Value: "1"}, {Value: "2"}}, "", "2", true},
		// Beyond a length there is none.
		{list[:1], "a", "", false},
	} {
		if got, ok := pairs.Get(x.list, x.key); got != x.want || ok != x.ok {
			t.Errorf("Get(%q, %q): %q, %t; want %q, %t", x.list, x.key, got, ok, x.want, x.ok)
		}
	}
}

// P2.1: Twice looks at keys alone, by their very bytes, wherever the two stand.
func TestTwice(t *testing.T) {
	for _, x := range []struct {
		list []api.Pair
		want bool
	}{
		{nil, false},
		{[]api.Pair{}, false},
		{[]api.Pair{{}}, false},
		{[]api.Pair{{}, {}}, true},
		{[]api.Pair{{Value: "1"}, {Key: "a"}, {Value: "2"}}, true},
		{[]api.Pair{{Key: "a", Value: "1"}, {Key: "b", Value: "1"}}, false},
		{[]api.Pair{{Key: "a", Value: "b"}, {Key: "b", Value: "a"}}, false},
		{[]api.Pair{{Key: "a", Value: "1"}, {Key: "a", Value: "2"}}, true},
		{[]api.Pair{{Key: "a", Value: "1"}, {Key: "a", Value: "1"}}, true},
		{[]api.Pair{{Key: "a"}, {Key: "A"}, {Key: "a "}, {Key: " a"}, {Key: "aa"}, {Key: ""}, {Key: "a\x00"}, {Key: "%61"}}, false},
		{[]api.Pair{{Key: "\xff"}, {Key: "\xfe"}}, false},
		{[]api.Pair{{Key: "\xff"}, {Key: "\xfe"}, {Key: "\xff"}}, true},
		{[]api.Pair{{Key: "a"}, {Key: "a"}}[:1], false},
	} {
		if got := pairs.Twice(x.list); got != x.want {
			t.Errorf("Twice(%q): %t", x.list, got)
		}
	}
	lists([]string{"", "a", "b", "ab"}, []string{"", "a"}, 4, func(list []api.Pair) {
		want := false
		for i := range list {
			for k := range i {
				want = want || list[i].Key == list[k].Key
			}
		}
		if got := pairs.Twice(list); got != want {
			t.Errorf("Twice(%q): %t", list, got)
		}
	})
}

// P2.1: Twice of more than MaxItems pairs: two anywhere among many are found, and no others.
func TestTwiceMany(t *testing.T) {
	var list []api.Pair
	for i := range 2 * api.MaxItems {
		list = append(list, api.Pair{Key: strconv.Itoa(i), Value: "v"})
	}
	if pairs.Twice(list) {
		t.Error("unlike keys are the same")
	}
	for i := range list {
		for k := range i {
			list[i].Key = list[k].Key
			if !pairs.Twice(list) {
				t.Fatalf("the keys at %d and %d are the same", k, i)
			}
			list[i].Key = strconv.Itoa(i)
		}
	}
}

// R4: no call changes the list that it is given, or its spare room, and no two answers share memory.
func TestMemory(t *testing.T) {
	whole := []api.Pair{{Key: "a", Value: "1"}, {Key: "a", Value: " "}, {Key: "spare", Value: "room"}}
	kept := slices.Clone(whole)
	list := whole[:2]
	pairs.Build(list...)
	pairs.Get(list, "a")
	pairs.Twice(list)
	if !slices.Equal(whole, kept) {
		t.Errorf("a list that was handed in is %q", whole)
	}
	one, _ := pairs.Parse("a=1&b=2")
	two, _ := pairs.Parse("a=1&b=2")
	clear(one[:cap(one)])
	if !slices.Equal(two, []api.Pair{{Key: "a", Value: "1"}, {Key: "b", Value: "2"}}) {
		t.Errorf("an answer changed with another: %q", two)
	}
}
