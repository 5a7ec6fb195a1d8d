package text_test

import (
	"encoding/base64"
	"strings"
	"testing"

	"exequatur/api"
	"exequatur/text"
)

// all has every byte once, in order.
func all() string {
	var b [256]byte
	for i := range b {
		b[i] = byte(i)
	}
	return string(b[:])
}

// short calls f with every text of at most two bytes.
func short(f func(b string)) {
	f("")
	for i := range 256 {
		f(string([]byte{byte(i)}))
		for k := range 256 {
			f(string([]byte{byte(i), byte(k)}))
		}
	}
}

func wantDecode(t *testing.T, s, want string, wantE api.Errno) {
	t.Helper()
	if got, e := text.Decode(s); got != want || e != wantE {
		t.Errorf("Decode(%q): %q, %d; want %q, %d", s, got, e, want, wantE)
	}
}

func wantUnquote(t *testing.T, s, want string, wantE api.Errno) {
	t.Helper()
	if got, e := text.Unquote(s); got != want || e != wantE {
		t.Errorf("Unquote(%q): %q, %d; want %q, %d", s, got, e, want, wantE)
	}
}

// P1.1: what RFC 4648 (section 10) and the chapter tell, and both characters of the URL's alphabet.
func TestEncodeKnown(t *testing.T) {
	for _, x := range []struct{ b, s string }{
		{"", ""},
		{"f", "Zg"},
		{"fo", "Zm8"},
		{"foo", "Zm9v"},
		{"foob", "Zm9vYg"},
		{"fooba", "Zm9vYmE"},
		{"foobar", "Zm9vYmFy"},
		{"\xff", "_w"},
		{"\x00", "AA"},
		{"\x00\x00", "AAA"},
		{"\x00\x00\x00", "AAAA"},
		{"\xfb\xef\xbe", "----"},
		{"\xff\xff\xff", "____"},
		{"\xfb\xff", "-_8"},
	} {
		if s := text.Encode(x.b); s != x.s {
			t.Errorf("Encode(%q): %q; want %q", x.b, s, x.s)
		}
		wantDecode(t, x.s, x.b, api.OK)
	}
}

// P1.1: Encode against another one, and Decode as its way back, at every length of the rest.
func TestEncodeDecode(t *testing.T) {
	check := func(b string) {
		s := text.Encode(b)
		if want := base64.RawURLEncoding.EncodeToString([]byte(b)); s != want {
			t.Fatalf("Encode(%q): %q; want %q", b, s, want)
		}
		if got, e := text.Decode(s); got != b || e != api.OK {
			t.Fatalf("Decode(%q): %q, %d; want %q", s, got, e, b)
		}
	}
	short(check)
	long := strings.Repeat(all(), 3)
	for n := range len(long) + 1 {
		check(long[:n])
		check(long[len(long)-n:])
	}
	check(strings.Repeat(all()+"x", 5000))
}

// P1.1: Decode takes a text of at most three bytes just if it is the Encode of one of at most two.
func TestDecodeTakesEncodesOnly(t *testing.T) {
	of := map[string]string{}
	short(func(b string) { of[text.Encode(b)] = b })
	check := func(s string) {
		b, ok := of[s]
		got, e := text.Decode(s)
		if ok && (e != api.OK || got != b) || !ok && (e != api.ErrForm || got != "") {
			t.Fatalf("Decode(%q): %q, %d; an Encode: %t, of %q", s, got, e, ok, b)
		}
	}
	short(check)
	some := "ABCDEFGHIJKLMNOPQRSTUVWXYZabcdefghijklmnopqrstuvwxyz0123456789-_" + "\x00\n\r =+/@[`{,.^~\x7f\x80\xad\xdf\xff"
	for i := range len(some) {
		for j := range len(some) {
			for k := range len(some) {
				check(string([]byte{some[i], some[j], some[k]}))
			}
		}
	}
}

// P1.1: a byte that has no place in base64url is refused wherever it stands.
func TestDecodeForeignBytes(t *testing.T) {
	good := "Zm9vYmFy"
	for i := range 256 {
		c := string([]byte{byte(i)})
		if strings.Contains("ABCDEFGHIJKLMNOPQRSTUVWXYZabcdefghijklmnopqrstuvwxyz0123456789-_", c) {
			continue
		}
		for at := range len(good) {
			wantDecode(t, good[:at]+c+good[at+1:], "", api.ErrForm)
			wantDecode(t, good[:at]+c+good[at:], "", api.ErrForm)
		}
		wantDecode(t, good+c, "", api.ErrForm)
		wantDecode(t, c, "", api.ErrForm)
	}
}

// P1.1: wrong lengths, bits that are left over, = at the end, the other alphabet, breaks of lines.
func TestDecodeWrong(t *testing.T) {
	for _, s := range []string{
		"Z", "Zm9vA", "Zm9vYmFyA", "AAAAA",
		"Zh", "Zi", "Zk", "Zo", "Zm9vYh", "AB", "AI", "_x",
		"Zm9", "Zm-", "Zm9vYmF", "AAB", "AAC", "__9",
		"=", "==", "Zg=", "Zg==", "Zm8=", "Zm9v=", "Zm9v====", "Zg==Zg",
		"+w", "/w", "Zm9+", "Zm9/",
		"Zg\n", "Zm9v\n", "\nZm9v", "Zm\r\n9v", " Zm9v", "Zm9v ", "Zm9\x00",
		"Zm9v\xc3\xa9",
	} {
		wantDecode(t, s, "", api.ErrForm)
	}
}

// P1.1: Equal at texts that differ in nothing, in a length, or in one bit anywhere.
func TestEqual(t *testing.T) {
	for _, x := range []struct {
		a, b string
		want bool
	}{
		{"", "", true},
		{"a", "a", true},
		{"a", "", false},
		{"", "a", false},
		{"a", "A", false},
		{"ab", "a", false},
		{"a", "ab", false},
		{"a\x00", "a", false},
		{"a", "a\x00", false},
		{"\x00", "", false},
		{"", "\x00", false},
		{strings.Repeat("\x00", 256), "", false},
		{"", strings.Repeat("\x00", 256), false},
		{"ab", "ba", false},
		{"\xff\xfe", "\xff\xfe", true},
	} {
		if got := text.Equal(x.a, x.b); got != x.want {
			t.Errorf("Equal(%q, %q): %t", x.a, x.b, got)
		}
	}
	a := all()
	if !text.Equal(a, all()) {
		t.Error("all bytes are not equal to themselves")
	}
	for i := range len(a) {
		for bit := range 8 {
			b := []byte(a)
			b[i] ^= 1 << bit
			if text.Equal(a, string(b)) {
				t.Errorf("Equal, although bit %d of byte %d differs", bit, i)
			}
		}
		if text.Equal(a, a[:i]) || text.Equal(a[:i], a) {
			t.Errorf("Equal to its first %d bytes", i)
		}
	}
	// Differences at two places must not do away with one another.
	if text.Equal("ab", "ba") || text.Equal("aa", "bb") || text.Equal("\x01\x01", "\x00\x00") {
		t.Error("two differences are equal")
	}
}

// P1.2: Quote of each byte alone: letters, digits, - . _ and ~ stand as they are, and no other byte does.
func TestQuoteEachByte(t *testing.T) {
	const plain = "ABCDEFGHIJKLMNOPQRSTUVWXYZabcdefghijklmnopqrstuvwxyz0123456789-._~"
	const digits = "0123456789ABCDEF"
	for i := range 256 {
		b := string([]byte{byte(i)})
		want := "%" + digits[i/16:i/16+1] + digits[i%16:i%16+1]
		if strings.Contains(plain, b) {
			want = b
		}
		if got := text.Quote(b); got != want {
			t.Errorf("Quote(%q): %q; want %q", b, got, want)
		}
		wantUnquote(t, text.Quote(b), b, api.OK)
	}
}

// P1.2: Quote of longer texts.
func TestQuote(t *testing.T) {
	for _, x := range []struct{ b, s string }{
		{"", ""},
		{"aZ09-._~", "aZ09-._~"},
		{"a/b~ \xff", "a%2Fb~%20%FF"},
		{"a b+c", "a%20b%2Bc"},
		{"%", "%25"},
		{"%2f", "%252f"},
		{"\x00\n\r", "%00%0A%0D"},
		{"k=v&", "k%3Dv%26"},
		{"\xc3\xa9", "%C3%A9"},
		{"https://a/b?c", "https%3A%2F%2Fa%2Fb%3Fc"},
		{"*!'()", "%2A%21%27%28%29"},
	} {
		if got := text.Quote(x.b); got != x.s {
			t.Errorf("Quote(%q): %q; want %q", x.b, got, x.s)
		}
		wantUnquote(t, x.s, x.b, api.OK)
	}
}

// P1.2: Unquote is Quote's way back.
func TestQuoteUnquote(t *testing.T) {
	check := func(b string) {
		if got, e := text.Unquote(text.Quote(b)); got != b || e != api.OK {
			t.Fatalf("Unquote(Quote(%q)): %q, %d", b, got, e)
		}
	}
	short(check)
	check(all())
	check(strings.Repeat(all()+"%+", 2000))
}

// P1.2: Unquote: + as a blank, digits great and small, all that stands as it is.
func TestUnquote(t *testing.T) {
	for _, x := range []struct{ s, b string }{
		{"", ""},
		{"a+b%2f%2F", "a b//"},
		{"+", " "},
		{"++", "  "},
		{"%2B", "+"},
		{"%2b+%20", "+  "},
		{"%25", "%"},
		{"%2541", "%41"},
		{"%aB%Ab%AB%ab", "\xab\xab\xab\xab"},
		{"%00%ff%FF", "\x00\xff\xff"},
		{"%099", "\t9"},
		{"%41b%43", "AbC"},
		{"a b/=&\x00\n\xff", "a b/=&\x00\n\xff"},
	} {
		wantUnquote(t, x.s, x.b, api.OK)
	}
}

// P1.2: behind a %, every two bytes: digits give that byte, and any others are refused.
func TestUnquoteEachDigits(t *testing.T) {
	const small, great = "0123456789abcdef", "0123456789ABCDEF"
	digit := func(c byte) int {
		return max(strings.IndexByte(small, c), strings.IndexByte(great, c))
	}
	for i := range 256 {
		for k := range 256 {
			s := string([]byte{'x', '%', byte(i), byte(k), 'y'})
			high, low := digit(byte(i)), digit(byte(k))
			if high < 0 || low < 0 {
				wantUnquote(t, s, "", api.ErrForm)
			} else {
				wantUnquote(t, s, string([]byte{'x', byte(high*16 + low), 'y'}), api.OK)
			}
		}
	}
}

// P1.2: a % at the end, before one digit, or before none; nothing stands beside the error.
func TestUnquoteWrong(t *testing.T) {
	for _, s := range []string{
		"%", "a%", "%%", "%2", "a+%2", "%F", "%f", "%2%", "%%2", "%%20", "%2%20",
		"%g0", "%0g", "%G0", "%0G", "%/0", "%0/", "%:0", "%0:", "%@0", "%0@", "%`0", "%0`",
		"% 0", "%0 ", "%+0", "%0+", "%-1", "%0x", "%x0", "%\xff0", "%0\xff", "%\x000",
		"%41%", "%41%4", "%zz", "ok%20but%2",
	} {
		wantUnquote(t, s, "", api.ErrForm)
	}
}
