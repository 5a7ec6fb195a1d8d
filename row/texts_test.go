package row_test

import (
	"fmt"
	"math/big"
	"math/rand"
	"regexp"
	"slices"
	"strings"
	"testing"
	"unsafe"

	"exequatur/api"
	"exequatur/row"
	"exequatur/short"
)

// front is what stands ahead of each text.
var front = regexp.MustCompile(`^(0|[1-9][0-9]*):`)

// laid answers the Texts of list as another program makes them.
func laid(list ...string) string {
	var out strings.Builder
	for _, s := range list {
		fmt.Fprintf(&out, "%d:%s", len(s), s)
	}
	return out.String()
}

// plainSplit reads Texts as another program does; false of what is none.
func plainSplit(s string) ([]string, bool) {
	var list []string
	for len(s) > 0 {
		m := front.FindStringSubmatch(s)
		if m == nil {
			return nil, false
		}
		s = s[len(m[0]):]
		n, _ := new(big.Int).SetString(m[1], 10)
		if n.Cmp(big.NewInt(int64(len(s)))) > 0 {
			return nil, false
		}
		list = append(list, s[:n.Int64()])
		s = s[n.Int64():]
	}
	return list, true
}

// wantSplit fails if Split(s) is not what another program reads; it answers whether s is Texts.
func wantSplit(t *testing.T, s string) bool {
	t.Helper()
	want, ok := plainSplit(s)
	wantE := api.OK
	if !ok {
		wantE = api.ErrForm
	}
	if got, e := row.Split(s); e != wantE || !slices.Equal(got, want) {
		t.Errorf("Split of %d bytes, %.80q: %.80q, %d; want %.80q, %d", len(s), s, got, e, want, wantE)
	}
	return ok
}

// wantForm fails if Split(s) is not ErrForm.
func wantForm(t *testing.T, s string) {
	t.Helper()
	if got, e := row.Split(s); e != api.ErrForm || len(got) != 0 {
		t.Errorf("Split of %d bytes, %.80q: %.80q, %d; want ErrForm", len(s), s, got, e)
	}
}

// wantBoth fails if Texts(list..) is not as another program makes it, or Split is no way back.
func wantBoth(t *testing.T, list ...string) {
	t.Helper()
	want := laid(list...)
	if got := row.Texts(list...); got != want {
		t.Errorf("Texts of %d, %.80q: %.80q; want %.80q", len(list), list, got, want)
	}
	if got, e := row.Split(want); e != api.OK || !slices.Equal(got, list) {
		t.Errorf("Split(%.80q): %.80q, %d; want %.80q", want, got, e, list)
	}
}

// bytesEach has every byte once, in order.
func bytesEach() string {
	var b [256]byte
	for i := range b {
		b[i] = byte(i)
	}
	return string(b[:])
}

// some answers n bytes that follow no short rule, the same ones each time.
func some(n int) string {
	b := make([]byte, n)
	rand.New(rand.NewSource(13)).Read(b)
	return string(b)
}

// changes calls f with each text that s comes to by one byte that is another one, is gone, or comes in.
func changes(s, bytes string, f func(s string)) {
	for i := range len(s) + 1 {
		for k := range len(bytes) {
			f(s[:i] + bytes[k:k+1] + s[i:])
			if i < len(s) {
				f(s[:i] + bytes[k:k+1] + s[i+1:])
			}
		}
		if i < len(s) {
			f(s[:i] + s[i+1:])
		}
	}
}

// P13.1: Texts, and Split as its way back, as the chapter tells them, and at their edges.
func TestTextsKnown(t *testing.T) {
	for _, x := range []struct {
		list []string
		s    string
	}{
		{nil, ""},
		{[]string{}, ""},
		{[]string{"ab", ""}, "2:ab0:"},
		{[]string{""}, "0:"},
		{[]string{"", ""}, "0:0:"},
		{[]string{"a"}, "1:a"},
		{[]string{":"}, "1::"},
		{[]string{"0:"}, "2:0:"},
		{[]string{"1:a", "b"}, "3:1:a1:b"},
		{[]string{"1", "2:", "-3"}, "1:12:2:2:-3"},
		{[]string{"é", "\xff\x00"}, "2:é2:\xff\x00"},
		{[]string{"123456789"}, "9:123456789"},
		{[]string{"1234567890", "a"}, "10:12345678901:a"},
		{[]string{"a\nb", " ", "b"}, "3:a\nb1: 1:b"},
	} {
		if got := row.Texts(x.list...); got != x.s {
			t.Errorf("Texts(%q): %q; want %q", x.list, got, x.s)
		}
		if got, e := row.Split(x.s); e != api.OK || !slices.Equal(got, x.list) {
			t.Errorf("Split(%q): %q, %d; want %q", x.s, got, e, x.list)
		}
	}
}

// P13.1: texts of any bytes and of each length round a digit more, alone and between others.
func TestTextsEach(t *testing.T) {
	for i := range 256 {
		c := string([]byte{byte(i)})
		wantBoth(t, c)
		wantBoth(t, c, c+c, "", c+"a", "a"+c)
		wantBoth(t, c+":", ":"+c, "1"+c, "1:"+c)
	}
	wantBoth(t, bytesEach(), bytesEach())
	lengths := []int{api.MaxText, api.MaxText + 1, api.MaxRecord, api.MaxTape + 1}
	for n := range 300 {
		lengths = append(lengths, n)
	}
	for n := 1000; n <= 1000000; n *= 10 {
		lengths = append(lengths, n-1, n, n+1)
	}
	for _, n := range lengths {
		for _, s := range []string{some(n), strings.Repeat("0", n), strings.Repeat(":", n), strings.Repeat("9", n)} {
			wantBoth(t, s)
			wantBoth(t, "a", s, "", s, "b")
		}
	}
}

// P13.1: any number of texts: neither call knows a limit.
func TestTextsMany(t *testing.T) {
	var list []string
	for n := range 3000 {
		list = append(list, some(n%40))
		wantBoth(t, list[n:]...)
	}
	for _, n := range []int{1, api.MaxItems, api.MaxItems + 1, len(list)} {
		wantBoth(t, list[:n]...)
		wantBoth(t, slices.Repeat([]string{""}, n)...)
		wantBoth(t, slices.Repeat([]string{"0:"}, n)...)
	}
	wantBoth(t, make([]string, 200000)...)
}

// P13.1: texts in texts are texts.
func TestTextsNested(t *testing.T) {
	s := ""
	for range 500 {
		wantBoth(t, s)
		wantBoth(t, s, s)
		s = laid("a", s)
	}
}

// P13.1: Split takes a short text just if it is the Texts of some list.
func TestSplitTakesTextsOnly(t *testing.T) {
	const some, most = "0123:a", 7
	of := map[string][]string{}
	var walk func(s string, list []string)
	walk = func(s string, list []string) {
		of[s] = list
		room := most - len(s) - len("0:")
		if room < 0 {
			return
		}
		short.Texts(some, room, func(one string) { walk(s+laid(one), append(slices.Clip(list), one)) })
	}
	walk("", nil)
	short.Texts(some, most, func(s string) {
		want, ok := of[s]
		got, e := row.Split(s)
		if ok && (e != api.OK || !slices.Equal(got, want)) || !ok && (e != api.ErrForm || len(got) != 0) {
			t.Errorf("Split(%q): %q, %d; Texts: %t, of %q", s, got, e, ok, want)
		}
	})
}

// P13.1: Split of each short text, against another program's reading.
func TestSplitEach(t *testing.T) {
	taken := 0
	check := func(s string) {
		if wantSplit(t, s) {
			taken++
		}
	}
	short.Texts("0123:", 7, check)
	short.Texts("12:-+ _.", 5, check)
	short.Texts("1:\x00\xff\n", 6, check)
	if taken < 500 {
		t.Errorf("%d Texts only", taken)
	}
}

// P13.1: what is no Texts, alone, behind some and ahead of some.
func TestSplitWrong(t *testing.T) {
	wrong := []string{
		"x", "1", "0", "10", ":", "::", ":a", "a:", "a:b", "1a", "1a:", "1:", "2:a", "10:a", "3:ab", "00:", "000:", "01:a", "001:a", "0001:a",
		"+0:", "+1:a", "-0:", "-1:", "-1:a", "--1:a", " 1:a", "1 :a", "1\n:a", "\t1:a", "1.0:a", "1e0:a", "1_0:aaaaaaaaaa", "0x1:a", "0b1:a", "0o1:a", "1,0:a",
		"1;a", "1=a", "1：a", "١:a", "１:a", "a1:a", "1a:a", "\x001:a", "1\x00:a", "\xff:", "\x00", "\xff", "null", `["a"]`,
	}
	for _, s := range wrong {
		wantForm(t, s)
		for _, good := range []string{"0:", "1:a", "2:ab0:"} {
			wantForm(t, good+s)
			wantForm(t, good+good+s)
			wantSplit(t, s+good)
		}
	}
}

// P13.1: numbers at the ends of what an int holds, and beyond, where they would wrap to one that is there.
func TestSplitGreat(t *testing.T) {
	for _, s := range []string{
		"127", "128", "255", "256", "257", "65536", "65537", "2147483646", "2147483647", "2147483648", "4294967295", "4294967296", "4294967297",
		"9223372036854775806", "9223372036854775807", "9223372036854775808", "18446744073709551615", "18446744073709551616", "18446744073709551617",
		"340282366920938463463374607431768211457", "-9223372036854775808", "-9223372036854775807", "-18446744073709551615", "-4294967295", "-2147483648",
	} {
		for _, rest := range []string{"", "a", "ab", "1:a", strings.Repeat("a", 100)} {
			wantForm(t, s+":"+rest)
			wantForm(t, "1:a"+s+":"+rest)
			wantForm(t, s+rest)
		}
	}
	for _, c := range []string{"0", "1", "9", "a", "-", " ", "00:", "1:", "\xff"} {
		wantForm(t, strings.Repeat(c, 300000))
	}
	wantForm(t, strings.Repeat("0", 300000)+"1:a")
	wantForm(t, strings.Repeat("0", 300000)+":")
}

// P13.1: Texts that are cut off anywhere but behind a text, or begin anywhere but ahead of one.
func TestSplitCut(t *testing.T) {
	list := []string{"ab", "", ":", "abcdefghijkl", "1:a", some(120), "", "é", "\x00", "0:"}
	s, ends := "", map[int]int{0: 0}
	for i, one := range list {
		s += laid(one)
		ends[len(s)] = i + 1
	}
	for n := range len(s) + 1 {
		whole, ok := ends[n]
		if !ok {
			wantForm(t, s[:n])
			wantSplit(t, s[n:])
			continue
		}
		if got, e := row.Split(s[:n]); e != api.OK || !slices.Equal(got, list[:whole]) {
			t.Errorf("Split(%.80q): %.80q, %d", s[:n], got, e)
		}
		if got, e := row.Split(s[n:]); e != api.OK || !slices.Equal(got, list[whole:]) {
			t.Errorf("Split(%.80q): %.80q, %d", s[n:], got, e)
		}
	}
}

// P13.1: with any byte of it another one, gone, or come in, a row is read as another program reads it.
func TestSplitChanged(t *testing.T) {
	for _, list := range [][]string{{"ab", ""}, {"", "abcdefghij", "1:a"}, {some(101), ":"}} {
		changes(laid(list...), bytesEach(), func(s string) { wantSplit(t, s) })
	}
}

// R4: what is handed in is not changed, its spare room neither, and no two answers share memory.
func TestTextsMemory(t *testing.T) {
	whole := []string{"ab", "", "spare", "room"}
	s := row.Texts(whole[:2]...)
	if s != "2:ab0:" || !slices.Equal(whole, []string{"ab", "", "spare", "room"}) {
		t.Errorf("Texts: %q; what was handed in is %q", s, whole)
	}
	one, _ := row.Split(s)
	two, _ := row.Split(s)
	clear(one[:cap(one)])
	if !slices.Equal(two, []string{"ab", ""}) {
		t.Errorf("Split: an answer changed with another: %q", two)
	}
}

// R4: a text that is answered is no piece of the one that was handed in.
func TestSplitCopies(t *testing.T) {
	s := laid("a", some(1000), "b")
	list, _ := row.Split(s)
	begin := uintptr(unsafe.Pointer(unsafe.StringData(s)))
	for i, one := range list {
		if at := uintptr(unsafe.Pointer(unsafe.StringData(one))); begin <= at && at < begin+uintptr(len(s)) {
			t.Errorf("Split: text %d is a piece of what was handed in", i)
		}
	}
}
