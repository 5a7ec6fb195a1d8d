package frame_test

import (
	"bytes"
	"crypto/sha256"
	"encoding/binary"
	"encoding/hex"
	"math"
	"math/rand"
	"slices"
	"strings"
	"testing"

	"exequatur/api"
	"exequatur/frame"
	"exequatur/tape"
)

// noted answers the frame of b as another program of the same sum makes it, but with any number in its note of how many bytes b has.
func noted(number uint32, b string) string {
	head := binary.BigEndian.AppendUint32(nil, number)
	sum := sha256.Sum256(append(head, b...))
	return string(head) + string(sum[:4]) + b
}

// other answers the frame of b as another program makes it.
func other(b string) string {
	return noted(uint32(len(b)), b)
}

// some answers n bytes that follow no short rule, the same ones each time.
func some(n int) string {
	b := make([]byte, n)
	rand.New(rand.NewSource(11)).Read(b)
	return string(b)
}

// lengths has those round the edges of a number's bytes and of the limits.
func lengths() []int {
	list := []int{api.MaxText, api.MaxText + 1, api.MaxRecord - 9, api.MaxRecord - 8, api.MaxRecord - 1, api.MaxRecord}
	for n := range 300 {
		list = append(list, n)
	}
	for _, n := range []int{1 << 9, 1 << 12, 1 << 14} {
		list = append(list, n-1, n, n+1)
	}
	return list
}

// greater has those that Split takes no more.
func greater() []int {
	return []int{api.MaxRecord + 1, api.MaxRecord + 8, api.MaxTape - 8, api.MaxTape - 1, api.MaxTape, api.MaxTape + 1, 1<<24 - 1, 1 << 24, 1<<24 + 1}
}

func wantFrame(t *testing.T, b, want string) {
	t.Helper()
	if got := string(frame.Frame([]byte(b))); got != want {
		t.Errorf("Frame of %d bytes, %.20q: %d bytes, %.40x; want %d, %.40x", len(b), b, len(got), got, len(want), want)
	}
}

// wantSplit fails if Split(b) is not the parts and as many bytes as their frames have.
func wantSplit(t *testing.T, b string, parts ...string) {
	t.Helper()
	list, n := frame.Split([]byte(b))
	taken := 0
	for _, s := range parts {
		taken += 8 + len(s)
	}
	same := slices.EqualFunc(list, parts, func(got []byte, want string) bool { return string(got) == want })
	if !same || n != taken {
		t.Errorf("Split of %d bytes, %.40x: %d, %.40q, and %d; want %d, %.40q, and %d", len(b), b, len(list), list, n, len(parts), parts, taken)
	}
}

// P11.1: Frame of what other programs' sums tell.
func TestFrameKnown(t *testing.T) {
	for _, x := range []struct{ b, front string }{
		{"", "00000000df3f6198"},
		{"ab", "00000002d2f295bb"},
		{"\xff", "0000000112552a62"},
		{"123456789", "00000009c3341211"},
		{strings.Repeat("x", 256), "00000100a964105d"},
		{strings.Repeat("\x00", api.MaxRecord), "00008000499f370d"},
		{strings.Repeat("a", api.MaxTape), "000100005300d472"},
	} {
		front, err := hex.DecodeString(x.front)
		if err != nil {
			t.Fatal(err)
		}
		wantFrame(t, x.b, string(front)+x.b)
	}
	wantFrame(t, "", string(frame.Frame(nil)))
}

// P11.1: Frame at each length, and of what Split takes no more: it knows no limit itself.
func TestFrameEachLength(t *testing.T) {
	for _, n := range append(lengths(), greater()...) {
		for _, b := range []string{some(n), strings.Repeat("\x00", n), strings.Repeat("\xff", n)} {
			wantFrame(t, b, other(b))
		}
	}
}

// P11.1: Frame of each byte, and of each two, and what Split makes of it.
func TestEachByte(t *testing.T) {
	for i := range 256 {
		b := string([]byte{byte(i)})
		wantFrame(t, b, other(b))
		wantSplit(t, other(b), b)
		for k := range 256 {
			b := string([]byte{byte(i), byte(k)})
			wantFrame(t, b, other(b))
			wantSplit(t, other(b), b)
		}
	}
}

// P11.1: a frame at the front is taken at each length that it may have, alone and ahead of what is none.
func TestSplitEachLength(t *testing.T) {
	for _, n := range lengths() {
		b := some(n)
		wantSplit(t, other(b), b)
		wantSplit(t, other(b)+other("next"), b, "next")
		wantSplit(t, other("ahead")+other(b)+"behind it", "ahead", b)
	}
}

// P11.1: what has more than MaxRecord bytes is none, alone, behind other frames and ahead of them.
func TestSplitGreater(t *testing.T) {
	most := some(api.MaxRecord)
	for _, n := range greater() {
		b := some(n)
		wantSplit(t, other(b))
		wantSplit(t, other(most)+other("a")+other(b)+other("c"), most, "a")
	}
}

// P11.1: where there is nothing there are no frames.
func TestSplitNothing(t *testing.T) {
	if list, n := frame.Split(nil); len(list) != 0 || n != 0 {
		t.Errorf("Split of nil: %q, %d", list, n)
	}
	wantSplit(t, "")
	for n := range 100 {
		wantSplit(t, strings.Repeat("\x00", n))
		wantSplit(t, strings.Repeat("\xff", n))
		wantSplit(t, some(n))
	}
}

// P11.1: frames of nothing are frames: each takes 8 bytes.
func TestSplitEmpty(t *testing.T) {
	for n := range 100 {
		wantSplit(t, strings.Repeat(other(""), n), make([]string, n)...)
	}
}

// P11.1: a frame that is cut off, at any place, is none; those ahead of it stand.
func TestSplitCut(t *testing.T) {
	parts := []string{"ab", "", "c", some(100), "", other("a frame in a frame"), some(3)}
	all, whole := "", 0
	for _, b := range parts {
		for cut := range len(other(b)) {
			wantSplit(t, all+other(b)[:cut], parts[:whole]...)
		}
		all += other(b)
		whole++
		wantSplit(t, all, parts[:whole]...)
	}
	most := other(some(api.MaxRecord))
	for _, cut := range []int{1, 2, 8, 9, 4096, api.MaxRecord - 1, api.MaxRecord, api.MaxRecord + 1} {
		wantSplit(t, other("a")+most[:len(most)-cut], "a")
	}
}

// P11.1: with any bit of it turned a frame is none, and none is taken behind it.
func TestSplitEachBit(t *testing.T) {
	for _, b := range []string{"", "a", "ab", "\x00\x00", some(70)} {
		good := other(b)
		for bit := range len(good) * 8 {
			bad := []byte(good)
			bad[bit/8] ^= 1 << (bit % 8)
			// Bytes enough behind it: a greater number must not be told from what lacks.
			wantSplit(t, string(bad)+strings.Repeat(good, 9))
			wantSplit(t, good+string(bad)+good, b)
		}
	}
}

// P11.1: each byte of a mark, and of a number, is held against each other byte.
func TestSplitFront(t *testing.T) {
	good, behind := other("ab"), some(api.MaxTape)
	for i := range 8 {
		for c := range 256 {
			s := good[:i] + string([]byte{byte(c)}) + good[i+1:]
			if s == good {
				wantSplit(t, s, "ab")
			} else {
				wantSplit(t, s+behind)
			}
		}
	}
}

// P11.1: a mark is that of number and bytes, the first four bytes of their sum.
func TestSplitMark(t *testing.T) {
	number := func(n int) string { return string(binary.BigEndian.AppendUint32(nil, uint32(n))) }
	sum := func(s string) string {
		h := sha256.Sum256([]byte(s))
		return string(h[:])
	}
	for _, b := range []string{"a", "abcd", some(40)} {
		n := number(len(b))
		wantSplit(t, n+sum(n + b)[:4]+b, b)
		for _, mark := range []string{
			sum(b)[:4], sum(n)[4:8], sum(b + n)[:4], sum(n + b)[4:8], sum(n + b)[28:], sum(n + n + b)[:4], sum(number(len(b)+4) + b)[:4], "\x00\x00\x00\x00", n,
		} {
			wantSplit(t, n+mark+b)
		}
		// The other orders of the three.
		wantSplit(t, sum(n + b)[:4]+n+b+some(100))
		wantSplit(t, n+b+sum(n + b)[:4]+some(100))
		little := string(binary.LittleEndian.AppendUint32(nil, uint32(len(b))))
		if little != n {
			wantSplit(t, little+sum(little + b)[:4]+b+some(100))
		}
	}
}

// P11.1: a number at its ends is more than is there, or more than MaxRecord, whatever the mark.
func TestSplitNumbers(t *testing.T) {
	for _, n := range []uint32{1, 2, 3, api.MaxRecord, api.MaxRecord + 1, 1 << 16, 1 << 24, math.MaxInt32, math.MaxInt32 + 1, math.MaxUint32 - 8, math.MaxUint32 - 7, math.MaxUint32 - 1, math.MaxUint32} {
		wantSplit(t, noted(n, ""))
		wantSplit(t, other("ab")+noted(n, ""), "ab")
		if n != 1 {
			wantSplit(t, noted(n, "a"))
		}
		if n > 2 {
			wantSplit(t, noted(n, "ab")+noted(0, ""))
		}
	}
	// A number of fewer than the mark is of.
	wantSplit(t, noted(1, "ab"))
	wantSplit(t, noted(0, "ab")+other(""))
}

// P11.1: each row of up to five pieces is split up to the first that is no frame.
func TestSplitRows(t *testing.T) {
	good := []string{"", "a", other("a")}
	bad := []string{"x", other("b")[:8], other("bc")[1:], noted(2, "bcd"), other(some(api.MaxRecord + 1))}
	var walk func(row string, parts []string, left int)
	walk = func(row string, parts []string, left int) {
		wantSplit(t, row, parts...)
		if left == 0 {
			return
		}
		for _, b := range good {
			walk(row+other(b), append(slices.Clip(parts), b), left-1)
		}
		for _, s := range bad {
			for _, b := range good {
				wantSplit(t, row+s+other(b), parts...)
			}
		}
	}
	walk("", nil, 5)
}

// P11.1: as many frames as a tape has room for are all taken.
func TestSplitMany(t *testing.T) {
	var parts []string
	var all strings.Builder
	for n := range 5000 {
		parts = append(parts, some(n%20))
		all.WriteString(other(some(n % 20)))
	}
	wantSplit(t, all.String(), parts...)
	wantSplit(t, all.String()[:all.Len()-1], parts[:len(parts)-1]...)
}

// R4: what is handed in is not changed, its spare room neither, and not kept.
func TestHandedIn(t *testing.T) {
	room := []byte("abcdefgh")
	made := frame.Frame(room[:3])
	if string(room) != "abcdefgh" {
		t.Errorf("Frame: what was handed in is %q", room)
	}
	copy(room, "!!!!!!!!")
	if string(made) != other("abc") {
		t.Errorf("Frame: %q changed with what was handed in", made)
	}
	all := other("ab") + other("") + other("cde")
	given := []byte(all + "spare room")
	list, _ := frame.Split(given[:len(all)])
	if string(given) != all+"spare room" {
		t.Errorf("Split: what was handed in is %q", given)
	}
	for i := range given {
		given[i] = '!'
	}
	if got := string(bytes.Join(list, []byte(" "))); got != "ab  cde" {
		t.Errorf("Split: %q changed with what was handed in", got)
	}
}

// R4: what is answered is new memory: none is shared with another answer, nor between the lists of one.
func TestAnswered(t *testing.T) {
	for _, n := range []int{0, 1, 2, 8, 31, 32, 33, 1000} {
		b := some(n)
		first, second := frame.Frame([]byte(b)), frame.Frame([]byte(b))
		for i := range first {
			first[i] = '!'
		}
		if string(second) != other(b) {
			t.Errorf("Frame of %d bytes: an answer changed with another", n)
		}
	}
	parts := []string{"ab", "", "cd", "", "ef"}
	var all []byte
	for _, b := range parts {
		all = append(all, other(b)...)
	}
	first, _ := frame.Split(all)
	second, _ := frame.Split(all)
	for i, part := range first {
		// Its spare room, too: what grows there is not to be seen in another.
		whole := part[:cap(part)]
		for k := range whole {
			whole[k] = '!'
		}
		if got, want := bytes.Join(first[i+1:], []byte(" ")), strings.Join(parts[i+1:], " "); string(got) != want {
			t.Errorf("Split: %q behind part %d, which was changed; want %q", got, i, want)
		}
	}
	clear(first[:cap(first)])
	if got, want := bytes.Join(second, []byte(" ")), strings.Join(parts, " "); string(got) != want {
		t.Errorf("Split: %q; want %q: an answer changed with another", got, want)
	}
}

// P3: wherever the power goes while frames are written on a tape, whole ones are read from it, with all that were sure.
func TestPowerGoes(t *testing.T) {
	parts := []string{"one", "", "two", "three"}
	for fuse := range 60 {
		for keep := range 20 {
			x, sure := tape.New(), 0
			x.Fuse(fuse)
			for i, s := range parts {
				if x.Write(frame.Frame([]byte(s))) != api.OK || x.Sync() != api.OK {
					break
				}
				sure = i + 1
			}
			x.Crash(keep)
			list, n := frame.Split(x.Bytes())
			if len(list) < sure || len(list) > sure+1 || n > x.Sure() {
				t.Fatalf("Fuse %d, Crash %d: %q, %d of %d bytes; %d were sure", fuse, keep, list, n, x.Sure(), sure)
			}
			wantSplit(t, string(x.Bytes()), parts[:len(list)]...)
		}
	}
}
