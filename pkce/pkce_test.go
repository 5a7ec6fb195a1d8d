package pkce_test

import (
	"crypto/sha256"
	"encoding/base64"
	"encoding/hex"
	"strings"
	"testing"

	"exequatur/pkce"
)

const (
	plain = "ABCDEFGHIJKLMNOPQRSTUVWXYZabcdefghijklmnopqrstuvwxyz0123456789-._~"
	sixes = "ABCDEFGHIJKLMNOPQRSTUVWXYZabcdefghijklmnopqrstuvwxyz0123456789-_"
)

// The verifier and the challenge of RFC 7636, appendix B.
const (
	known      = "dBjftJeZ4CVP-mB92K27uhbUJU1p1r_wW1gFWFOEjXk"
	challenged = "E9Melhoa2OwvFrEMTJguCHaoeK1t8URWbuGJSstw-cM"
)

// all has every byte once, in order.
func all() string {
	var b [256]byte
	for i := range b {
		b[i] = byte(i)
	}
	return string(b[:])
}

// one answers the text of one byte.
func one(c int) string {
	return string([]byte{byte(c)})
}

// encode is another program's base64url, without =.
func encode(b string) string {
	return base64.RawURLEncoding.EncodeToString([]byte(b))
}

// sum is another program's SHA-256.
func sum(b string) string {
	s := sha256.Sum256([]byte(b))
	return string(s[:])
}

// cut answers n of the bytes that a verifier may have, each of them sooner or later.
func cut(n int) string {
	return strings.Repeat(plain, n/len(plain)+1)[:n]
}

func wantChallenge(t *testing.T, verifier, want string) {
	t.Helper()
	if got := pkce.Challenge(verifier); got != want {
		t.Errorf("Challenge of %d bytes, %.200q: %q; want %q", len(verifier), verifier, got, want)
	}
}

func wantGood(t *testing.T, challenge string, want bool) {
	t.Helper()
	if got := pkce.Good(challenge); got != want {
		t.Errorf("Good of %d bytes, %.200q: %t", len(challenge), challenge, got)
	}
}

func wantRight(t *testing.T, challenge, verifier string, want bool) {
	t.Helper()
	if got := pkce.Right(challenge, verifier); got != want {
		t.Errorf("Right(%.200q, %.200q), of %d and %d bytes: %t", challenge, verifier, len(challenge), len(verifier), got)
	}
}

// P9.1: what RFC 7636 tells, and other sums that are known.
func TestKnown(t *testing.T) {
	for _, x := range []struct {
		verifier, challenge string
		right               bool
	}{
		{known, challenged, true},
		{"", "47DEQpj8HBSa-_TImW-5JCeuQeRkm5NMpJWZG3hSuFU", false},
		{"abc", "ungWv48Bz-pBQUDeXa4iI7ADYaOWF3qctBD_YfIAFa0", false},
		{"abcdbcdecdefdefgefghfghighijhijkijkljklmklmnlmnomnopnopq", "JI1qYdIGOLjlwCaTDD5gOaM85Flk_yFn9uzt1BnbBsE", true},
	} {
		wantChallenge(t, x.verifier, x.challenge)
		wantGood(t, x.challenge, true)
		wantRight(t, x.challenge, x.verifier, x.right)
	}
}

// P9.1, R1: Challenge of any bytes, at each length, also of what may be no verifier.
func TestChallengeAny(t *testing.T) {
	check := func(b string) {
		c := pkce.Challenge(b)
		wantChallenge(t, b, encode(sum(b)))
		wantGood(t, c, true)
	}
	long := strings.Repeat(all(), 2)
	for n := range len(long) + 1 {
		check(long[:n])
		check(long[len(long)-n:])
		check(strings.Repeat("\x00", n))
	}
	for i := range 256 {
		check(one(i))
		check(strings.Repeat(one(i), 43))
	}
	check(strings.Repeat(all(), 1000))
}

// P9.1: Good of the Encode of each number of bytes: of 32 alone.
func TestGoodLengths(t *testing.T) {
	long := all()
	for n := range len(long) + 1 {
		wantGood(t, encode(long[:n]), n == 32)
		wantGood(t, encode(long[len(long)-n:]), n == 32)
		wantGood(t, strings.Repeat("A", n), n == 43)
		wantGood(t, strings.Repeat("_", n), false)
		wantGood(t, long[:n], false)
	}
	wantGood(t, encode(strings.Repeat(long, 1000)), false)
}

// P9.1: Good at each byte of a challenge: base64url, and at the end such as fill up with noughts alone.
func TestGoodEachByte(t *testing.T) {
	for _, s := range []string{challenged, encode(strings.Repeat("\x00", 32)), encode(strings.Repeat("\xff", 32)), encode(all()[:32])} {
		wantGood(t, s, true)
		for i := range len(s) {
			for c := range 256 {
				six := strings.IndexByte(sixes, byte(c))
				wantGood(t, s[:i]+one(c)+s[i+1:], six >= 0 && (i < len(s)-1 || six%4 == 0))
			}
			wantGood(t, s[:i]+s[i+1:], false)
			wantGood(t, s[:i]+"A"+s[i:], false)
		}
	}
}

// P9.1: what is like a challenge, and is no Encode of 32 bytes.
func TestGoodWrong(t *testing.T) {
	for _, s := range []string{
		"", "A", "=", challenged + "=", challenged + " ", " " + challenged, challenged + "\n", challenged + "\x00", challenged + "A",
		challenged + challenged, challenged[1:], challenged[:42], challenged[:42] + "=", challenged[:42] + "\n", challenged + ".", "." + challenged,
		base64.StdEncoding.EncodeToString([]byte(sum("abc"))), base64.RawStdEncoding.EncodeToString([]byte(sum("abc"))),
		base64.URLEncoding.EncodeToString([]byte(sum("abc"))), hex.EncodeToString([]byte(sum("abc"))), sum("abc"),
		strings.Repeat("a", 43), strings.Repeat("é", 43), strings.Repeat("=", 43), strings.Repeat(".", 43), strings.Repeat("~", 43),
	} {
		wantGood(t, s, false)
	}
}

// P9.1: Right at each length of a verifier: from 43 to 128.
func TestRightLengths(t *testing.T) {
	for n := range 300 {
		for _, v := range []string{cut(n), strings.Repeat("a", n), strings.Repeat("~", n), strings.Repeat("-", n), strings.Repeat(".", n), strings.Repeat("0", n)} {
			wantRight(t, encode(sum(v)), v, 43 <= n && n <= 128)
		}
	}
	for _, n := range []int{1 << 8, 1<<8 + 43, 1<<8 + 128, 1 << 12, 1<<16 + 43, 1 << 20} {
		wantRight(t, encode(sum(cut(n))), cut(n), false)
	}
}

// P9.1: Right with each byte at each place of a verifier, the shortest, the longest and one between: letters, digits, - . _ and ~ alone, although the challenge is its own.
func TestRightEachByte(t *testing.T) {
	for _, v := range []string{cut(43), known, cut(64), cut(66), cut(128)} {
		for i := range len(v) {
			for c := range 256 {
				v := v[:i] + one(c) + v[i+1:]
				wantRight(t, encode(sum(v)), v, strings.Contains(plain, one(c)))
			}
		}
	}
	for c := range 256 {
		v := strings.Repeat(one(c), 43)
		wantRight(t, encode(sum(v)), v, strings.Contains(plain, one(c)))
	}
}

// P9.1: bytes are counted, and letters of other scripts are none.
func TestRightLetters(t *testing.T) {
	for _, s := range []string{"é", "ß", "ж", "文", "\u212a", "٣", "\xff"} {
		for _, n := range []int{15, 21, 22, 42, 43, 64, 128} {
			v := strings.Repeat(s, n)
			wantRight(t, encode(sum(v)), v, false)
		}
		v := strings.Repeat("a", 42) + s
		wantRight(t, encode(sum(v)), v, false)
	}
	// What stands quoted is not the same as what it stands for.
	for _, v := range []string{strings.Repeat("a", 42) + "%41", strings.Repeat("a", 42) + "+", strings.Repeat("%20", 15)} {
		wantRight(t, encode(sum(v)), v, false)
	}
}

// P9.1: each other byte at each place of a challenge, and each one that lacks or is too much, is not right.
func TestRightOtherChallenges(t *testing.T) {
	for _, v := range []string{known, cut(43), cut(128)} {
		s := encode(sum(v))
		wantRight(t, s, v, true)
		for i := range len(s) {
			for c := range 256 {
				wantRight(t, s[:i]+one(c)+s[i+1:], v, byte(c) == s[i])
			}
			wantRight(t, s[:i], v, false)
			wantRight(t, s[i+1:], v, false)
			wantRight(t, s[:i]+s[i+1:], v, false)
			wantRight(t, s[:i]+"A"+s[i:], v, s[:i]+"A"+s[i:] == s)
		}
		std := base64.StdEncoding.EncodeToString([]byte(sum(v)))
		for _, x := range []string{"", v, s + "=", s + "\x00", s + "\n", " " + s, s + s, strings.ToLower(s), std, sum(v), hex.EncodeToString([]byte(sum(v))), encode(v), encode(s), encode(sum(s))} {
			wantRight(t, x, v, false)
		}
	}
}

// P9.1: of some verifiers each has its own challenge, and no other's.
func TestRightOthers(t *testing.T) {
	list := []string{known, known + "a", "a" + known, known[1:] + "a", strings.ToUpper(known), strings.ToLower(known), challenged}
	for n := 43; n <= 128; n++ {
		list = append(list, cut(n), strings.Repeat("b", n))
	}
	for i, v := range list {
		for k, x := range list {
			wantRight(t, pkce.Challenge(x), v, i == k)
		}
	}
}

// P9.1: what is no verifier is not right with anything, empty texts among them.
func TestRightNothing(t *testing.T) {
	for _, v := range []string{"", "a", cut(42), cut(129), strings.Repeat("+", 43), strings.Repeat(" ", 43), strings.Repeat("\x00", 43), all()} {
		for _, s := range []string{"", v, encode(v), sum(v), encode(sum(v)), challenged, encode(strings.Repeat("\x00", 32))} {
			wantRight(t, s, v, false)
		}
	}
	wantRight(t, "", known, false)
	wantRight(t, challenged, "", false)
	wantRight(t, known, challenged, false)
	wantRight(t, known, known, false)
}

// R5: what a call answers hangs on nothing that was called before.
func TestAgain(t *testing.T) {
	for range 3 {
		wantRight(t, challenged, known, true)
		wantRight(t, challenged, cut(43), false)
		wantChallenge(t, known, challenged)
		wantGood(t, challenged, true)
		wantGood(t, known[1:], false)
	}
}
