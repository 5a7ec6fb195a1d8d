package hash_test

import (
	"crypto/hmac"
	"crypto/sha256"
	"encoding/hex"
	"math/rand"
	"strings"
	"testing"

	"exequatur/hash"
)

// other answers what another program of the same sum says.
func other(b string) string {
	sum := sha256.Sum256([]byte(b))
	return string(sum[:])
}

// otherMac does so for a sum with a key.
func otherMac(key, b string) string {
	m := hmac.New(sha256.New, []byte(key))
	m.Write([]byte(b))
	return string(m.Sum(nil))
}

// some answers n bytes that follow no short rule, the same ones each time.
func some(n int) string {
	b := make([]byte, n)
	rand.New(rand.NewSource(4)).Read(b)
	return string(b)
}

// wantSum fails if Sum(b) is not what was told elsewhere.
func wantSum(t *testing.T, b, want string) {
	t.Helper()
	if got := hash.Sum(b); got != want {
		t.Errorf("Sum of %d bytes, %.40q: %x; want %x", len(b), b, got, want)
	}
}

func wantMac(t *testing.T, key, b, want string) {
	t.Helper()
	if got := hash.Mac(key, b); got != want {
		t.Errorf("Mac of %d bytes, %.40q, with a key of %d, %.40q: %x; want %x", len(b), b, len(key), key, got, want)
	}
}

func bytes(t *testing.T, digits string) string {
	t.Helper()
	b, err := hex.DecodeString(digits)
	if err != nil {
		t.Fatal(err)
	}
	return string(b)
}

// P4.1: Sum of what is told in FIPS 180-4's examples and elsewhere.
func TestSumKnown(t *testing.T) {
	for _, x := range []struct{ b, want string }{
		{"", "e3b0c44298fc1c149afbf4c8996fb92427ae41e4649b934ca495991b7852b855"},
		{"abc", "ba7816bf8f01cfea414140de5dae2223b00361a396177a9cb410ff61f20015ad"},
		{"abcdbcdecdefdefgefghfghighijhijkijkljklmklmnlmnomnopnopq", "248d6a61d20638b8e5c026930c3e6039a33ce45964ff2167f6ecedd419db06c1"},
		{"abcdefghbcdefghicdefghijdefghijkefghijklfghijklmghijklmnhijklmnoijklmnopjklmnopqklmnopqrlmnopqrsmnopqrstnopqrstu", "cf5b16a778af8380036ce59e7b0492370b249b11e8f07a51afac45037afee9d1"},
		{"\xbd", "68325720aabd7c82f30f554b313d0570c95accbb7dc4b5aae11204c08ffe732b"},
		{"The quick brown fox jumps over the lazy dog", "d7a8fbb307d7809469ca9abcb0082e4f8d5651e46d3cdb762d02d0bf37c9e592"},
		{"The quick brown fox jumps over the lazy dog.", "ef537f25c895bfa782526529a9b63d97aa631564d5d789c2b765448c8635fb6c"},
		{strings.Repeat("a", 1000000), "cdc76e5c9914fb9281a1c7e284d73e67f1809a48a497200e046d39ccc7112cd0"},
	} {
		wantSum(t, x.b, bytes(t, x.want))
	}
}

// P4.1: Sum at each length round many blocks' ends: where the mark and the counter just find room, and where they don't.
func TestSumEachLength(t *testing.T) {
	for _, long := range []string{some(600), strings.Repeat("\x00", 600), strings.Repeat("\xff", 600), strings.Repeat("\x80", 600)} {
		for n := range len(long) + 1 {
			wantSum(t, long[:n], other(long[:n]))
		}
	}
}

// P4.1: Sum of each text of one byte and of each of two, and of one bit at each place of two blocks.
func TestSumEachByte(t *testing.T) {
	for i := range 256 {
		wantSum(t, string([]byte{byte(i)}), other(string([]byte{byte(i)})))
		for k := range 256 {
			b := string([]byte{byte(i), byte(k)})
			wantSum(t, b, other(b))
		}
	}
	for bit := range 128 * 8 {
		b := make([]byte, 128)
		b[bit/8] = 1 << (bit % 8)
		wantSum(t, string(b), other(string(b)))
	}
}

// P4.1: Sum of many blocks.
func TestSumLong(t *testing.T) {
	long := some(1 << 20)
	for _, n := range []int{4095, 4096, 4097, 1<<13 - 1, 1 << 13, 1<<16 - 9, 1<<16 - 8, 1 << 16, 1<<20 - 1, 1 << 20} {
		wantSum(t, long[:n], other(long[:n]))
		wantSum(t, long[len(long)-n:], other(long[len(long)-n:]))
	}
}

// P4.1: Sum of so much that its bits are more than 32 can count.
func TestSumCounter(t *testing.T) {
	if testing.Short() {
		t.Skip("half a GiB")
	}
	b := strings.Repeat("\x5a", 1<<29+3)
	h := sha256.New()
	part := []byte(b[:1<<20])
	for range 1 << 9 {
		h.Write(part)
	}
	h.Write(part[:3])
	if got, want := hash.Sum(b), string(h.Sum(nil)); got != want {
		t.Errorf("Sum of %d bytes: %x; want %x", len(b), got, want)
	}
}

// P4.1: Mac of what RFC 4231 tells (its fifth test is cut to 16 bytes there), and of nothing with nothing.
func TestMacKnown(t *testing.T) {
	for _, x := range []struct{ key, b, want string }{
		{strings.Repeat("\x0b", 20), "Hi There", "b0344c61d8db38535ca8afceaf0bf12b881dc200c9833da726e9376c2e32cff7"},
		{"Jefe", "what do ya want for nothing?", "5bdcc146bf60754e6a042426089575c75a003f089d2739839dec58b964ec3843"},
		{strings.Repeat("\xaa", 20), strings.Repeat("\xdd", 50), "773ea91e36800e46854db8ebd09181a72959098b3ef8c122d9635514ced565fe"},
		{bytes(t, "0102030405060708090a0b0c0d0e0f10111213141516171819"), strings.Repeat("\xcd", 50), "82558a389a443c0ea4cc819899f2083a85f0faa3e578f8077a2e3ff46729665b"},
		{strings.Repeat("\xaa", 131), "Test Using Larger Than Block-Size Key - Hash Key First", "60e431591ee0b67f0d8a26aacbf5b77f8e0bc6213728c5140546040f0ee37f54"},
		{strings.Repeat("\xaa", 131), "This is a test using a larger than block-size key and a larger than block-size data. The key needs to be hashed before being used by the HMAC algorithm.", "9b09ffa71b942fcb27635fbcd5b0e944bfdc63644f0713938a7f51535c3a35e2"},
		{"", "", "b613679a0814d9ec772f95d778c35fc5ff1697c493715653c6c712144292c5ad"},
		{"key", "The quick brown fox jumps over the lazy dog", "f7bc83f430538424b13298e6aa6fb143ef4d59a14946175997479dbc2d1a3cd8"},
	} {
		wantMac(t, x.key, x.b, bytes(t, x.want))
	}
	if got, want := hash.Mac(strings.Repeat("\x0c", 20), "Test With Truncation")[:16], bytes(t, "a3b6167473100ee06e0c796c2955552b"); got != want {
		t.Errorf("Mac, cut: %x; want %x", got, want)
	}
}

// P4.1: Mac with a key of each length round a block's: shorter ones are filled up, longer ones summed first.
func TestMacEachLength(t *testing.T) {
	long := some(300)
	for n := range 200 {
		key := long[:n]
		for _, m := range []int{0, 1, 54, 55, 56, 63, 64, 65, 119, 120, 128, 300} {
			wantMac(t, key, long[len(long)-m:], otherMac(key, long[len(long)-m:]))
		}
		wantMac(t, strings.Repeat("\x36", n), "\x36", otherMac(strings.Repeat("\x36", n), "\x36"))
		wantMac(t, strings.Repeat("\x5c", n), "\x5c", otherMac(strings.Repeat("\x5c", n), "\x5c"))
	}
	for n := range long {
		wantMac(t, "a key", long[:n], otherMac("a key", long[:n]))
	}
	wantMac(t, some(1<<18), some(1<<18), otherMac(some(1<<18), some(1<<18)))
}

// P4.1: a key of one block stands as it is, and one of a byte more is the same as its sum.
func TestMacLongKey(t *testing.T) {
	block, more := some(64), some(65)
	if hash.Mac(block, "b") == hash.Mac(hash.Sum(block), "b") {
		t.Error("a key of one block was summed")
	}
	if hash.Mac(more, "b") != hash.Mac(hash.Sum(more), "b") {
		t.Error("a key of more than one block was not summed")
	}
	if hash.Mac("k", "b") != hash.Mac("k\x00", "b") || hash.Mac("k", "b") == hash.Mac("\x00k", "b") {
		t.Error("a short key was not filled up behind")
	}
}

// R5: what a call answers hangs on nothing that was called before.
func TestAgain(t *testing.T) {
	sum, mac := hash.Sum("a"), hash.Mac("a", "b")
	hash.Sum(some(1000))
	hash.Mac(some(100), some(1000))
	if hash.Sum("a") != sum || hash.Mac("a", "b") != mac {
		t.Error("another answer to the same call")
	}
	if len(sum) != 32 || len(mac) != 32 {
		t.Errorf("%d and %d bytes", len(sum), len(mac))
	}
}
