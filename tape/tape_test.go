package tape_test

import (
	"bytes"
	"math"
	"strconv"
	"strings"
	"testing"

	"exequatur/api"
	"exequatur/tape"
)

// numbers has numbers at their ends, and round nought.
var numbers = []int{math.MinInt, math.MinInt + 1, -1 << 32, -2, -1, 0, 1, 2, 3, 1 << 31, 1 << 32, math.MaxInt - 1, math.MaxInt}

// all has every byte once, in order.
func all() string {
	var b [256]byte
	for i := range b {
		b[i] = byte(i)
	}
	return string(b[:])
}

// made answers a tape with sure bytes, and loose ones behind them.
func made(t *testing.T, sure, loose string) *tape.Tape {
	t.Helper()
	x := tape.New()
	wantE(t, "Write", x.Write([]byte(sure)), api.OK)
	wantE(t, "Sync", x.Sync(), api.OK)
	wantE(t, "Write", x.Write([]byte(loose)), api.OK)
	want(t, x, sure, loose)
	return x
}

// gone answers such a tape, whose power is gone.
func gone(t *testing.T, sure, loose string) *tape.Tape {
	t.Helper()
	x := made(t, sure, loose)
	x.Fuse(0)
	wantE(t, "Sync", x.Sync(), api.ErrDown)
	want(t, x, sure, loose)
	return x
}

func want(t *testing.T, x *tape.Tape, sure, loose string) {
	t.Helper()
	if got := string(x.Bytes()); got != sure+loose || x.Sure() != len(sure) {
		t.Errorf("%d bytes, %.200q, %d of them sure; want %.200q and %.200q, %d and %d", len(got), got, x.Sure(), sure, loose, len(sure), len(loose))
	}
}

func wantE(t *testing.T, call string, got, e api.Errno) {
	t.Helper()
	if got != e {
		t.Errorf("%s: %d; want %d", call, got, e)
	}
}

// P10.1: a new tape has no bytes, and none of another's.
func TestNew(t *testing.T) {
	x, y := tape.New(), tape.New()
	want(t, x, "", "")
	made(t, "ab", "cd")
	wantE(t, "Write", x.Write([]byte("a")), api.OK)
	want(t, x, "", "a")
	want(t, y, "", "")
	want(t, tape.New(), "", "")
}

// P10.1: what is written comes behind, byte by byte as it is, and is loose.
func TestWrite(t *testing.T) {
	x, sofar := tape.New(), ""
	for _, s := range []string{"", "a", "", "bc", "\x00", "\n", "a", all(), strings.Repeat("\xff", 1000), "é", ""} {
		wantE(t, "Write", x.Write([]byte(s)), api.OK)
		sofar += s
		want(t, x, "", sofar)
	}
	wantE(t, "Write of nil", x.Write(nil), api.OK)
	want(t, x, "", sofar)
	x = made(t, "ab", "cd")
	wantE(t, "Write", x.Write([]byte("ef")), api.OK)
	want(t, x, "ab", "cdef")
}

// P10.1: so does each byte alone, at each place.
func TestWriteEachByte(t *testing.T) {
	x := tape.New()
	for i := range 1 << 12 {
		wantE(t, "Write", x.Write([]byte{byte(i)}), api.OK)
		if x.Sure() != 0 || len(x.Bytes()) != i+1 {
			t.Fatalf("%d bytes, %d of them sure, behind %d", len(x.Bytes()), x.Sure(), i+1)
		}
	}
	want(t, x, "", strings.Repeat(all(), 1<<4))
}

// P10.1: behind a Sync all are sure, and what comes later is not.
func TestSync(t *testing.T) {
	x := tape.New()
	wantE(t, "Sync", x.Sync(), api.OK)
	want(t, x, "", "")
	wantE(t, "Write", x.Write([]byte("ab")), api.OK)
	wantE(t, "Write", x.Write([]byte("c")), api.OK)
	for range 3 {
		wantE(t, "Sync", x.Sync(), api.OK)
		want(t, x, "abc", "")
	}
	wantE(t, "Write", x.Write([]byte("de")), api.OK)
	want(t, x, "abc", "de")
	wantE(t, "Sync", x.Sync(), api.OK)
	want(t, x, "abcde", "")
}

// P10.1: behind a Swap there are its bytes alone, sure ones, whatever was there.
func TestSwap(t *testing.T) {
	for _, sure := range []string{"", "a", "abc", all()} {
		for _, loose := range []string{"", "d", "def", all()} {
			for _, s := range []string{"", "x", "xyz", all() + all() + all()} {
				x := made(t, sure, loose)
				wantE(t, "Swap", x.Swap([]byte(s)), api.OK)
				want(t, x, s, "")
				wantE(t, "Write", x.Write([]byte("w")), api.OK)
				want(t, x, s, "w")
				x.Crash(0)
				want(t, x, s, "")
			}
			x := made(t, sure, loose)
			wantE(t, "Swap of nil", x.Swap(nil), api.OK)
			want(t, x, "", "")
		}
	}
}

// P10.1: a tape itself has no bound, not that of a text, a record, or a store's tape.
func TestLong(t *testing.T) {
	for _, n := range []int{api.MaxText + 1, api.MaxRecord + 1, api.MaxTape, api.MaxTape + 1, 1 << 20} {
		s := strings.Repeat(all(), n/256+1)[:n]
		x := made(t, s, s)
		wantE(t, "Swap", x.Swap([]byte(s+s)), api.OK)
		want(t, x, s+s, "")
		x.Fuse(n)
		wantE(t, "Write", x.Write([]byte(s+"a")), api.ErrDown)
		want(t, x, s+s, s)
		x.Crash(n - 1)
		want(t, x, s+s+s[:n-1], "")
	}
}

// P10.2: of a Write just as many bytes are written as the fuse lets, and the power is gone, if these are not all.
func TestFuseWrite(t *testing.T) {
	for n := range 7 {
		s := "uvwxyz"[:n]
		for _, fuse := range append([]int{4, 5, 6, 7}, numbers...) {
			x := made(t, "ab", "cd")
			x.Fuse(fuse)
			// One below 0 counts as 0, so that a Write of nothing is no more than it.
			done, e := n, api.OK
			if max(fuse, 0) < n {
				done, e = max(fuse, 0), api.ErrDown
			}
			wantE(t, "Write", x.Write([]byte(s)), e)
			want(t, x, "ab", "cd"+s[:done])
			if e == api.ErrDown {
				wantDown(t, x, "ab", "cd"+s[:done])
			}
		}
	}
}

// P10.2: a Sync is one byte, whether something is loose or not: behind one that fails nothing more is sure.
func TestFuseSync(t *testing.T) {
	for _, loose := range []string{"", "c", "cdef"} {
		for _, fuse := range numbers {
			x := made(t, "ab", loose)
			x.Fuse(fuse)
			if fuse <= 0 {
				wantE(t, "Sync", x.Sync(), api.ErrDown)
				wantDown(t, x, "ab", loose)
				continue
			}
			for range min(fuse, 5) {
				wantE(t, "Sync", x.Sync(), api.OK)
				want(t, x, "ab"+loose, "")
			}
			if fuse < 5 {
				wantE(t, "Sync", x.Sync(), api.ErrDown)
				wantDown(t, x, "ab"+loose, "")
			}
		}
	}
}

// P10.2: a Swap is as many bytes as it has and one more: all of it is done, or nothing.
func TestFuseSwap(t *testing.T) {
	for n := range 7 {
		s := "uvwxyz"[:n]
		for _, fuse := range append([]int{4, 5, 6, 7, 8}, numbers...) {
			x := made(t, "ab", "cd")
			x.Fuse(fuse)
			if fuse < n+1 {
				wantE(t, "Swap", x.Swap([]byte(s)), api.ErrDown)
				wantDown(t, x, "ab", "cd")
				continue
			}
			wantE(t, "Swap", x.Swap([]byte(s)), api.OK)
			want(t, x, s, "")
			if fuse == n+1 {
				wantE(t, "Sync", x.Sync(), api.ErrDown)
				wantDown(t, x, s, "")
			}
		}
	}
}

// P10.2: a fuse counts all that is done behind it, and what is nothing is no more than what is left.
func TestFuseCounts(t *testing.T) {
	x := made(t, "ab", "")
	x.Fuse(9)
	wantE(t, "Write", x.Write([]byte("cd")), api.OK)
	wantE(t, "Sync", x.Sync(), api.OK)
	wantE(t, "Swap", x.Swap([]byte("xyz")), api.OK)
	wantE(t, "Write", x.Write([]byte("u")), api.OK)
	wantE(t, "Write", x.Write(nil), api.OK)
	wantE(t, "Write", x.Write([]byte("v")), api.OK)
	for range 3 {
		wantE(t, "Write", x.Write(nil), api.OK)
		wantE(t, "Write", x.Write([]byte{}), api.OK)
		want(t, x, "xyz", "uv")
	}
	wantE(t, "Write", x.Write([]byte("w")), api.ErrDown)
	wantDown(t, x, "xyz", "uv")
}

// P10.2: what answers and what crashes is not counted.
func TestFuseCountsNoMore(t *testing.T) {
	x := made(t, "ab", "cd")
	x.Fuse(2)
	for range 10 {
		want(t, x, "ab", "cd")
	}
	wantE(t, "Write", x.Write([]byte("ef")), api.OK)
	want(t, x, "ab", "cdef")
}

// P10.2: another fuse counts anew, whether it is longer or shorter.
func TestFuseAgain(t *testing.T) {
	for _, first := range numbers {
		for _, fuse := range numbers {
			x := made(t, "ab", "")
			x.Fuse(first)
			if first >= 1 {
				wantE(t, "Write", x.Write([]byte("c")), api.OK)
			} else {
				wantE(t, "Write", x.Write(nil), api.OK)
			}
			loose := "c"[:min(max(first, 0), 1)]
			x.Fuse(fuse)
			done, e := 3, api.OK
			if fuse < 3 {
				done, e = max(fuse, 0), api.ErrDown
			}
			wantE(t, "Write", x.Write([]byte("xyz")), e)
			want(t, x, "ab", loose+"xyz"[:done])
		}
	}
}

// wantDown fails if something is done without power, or if a fuse gives it back.
func wantDown(t *testing.T, x *tape.Tape, sure, loose string) {
	t.Helper()
	want(t, x, sure, loose)
	for _, fuse := range []int{math.MinInt, -1, 0, 1, 100, math.MaxInt} {
		for _, s := range []string{"", "x", all()} {
			wantE(t, "Write without power", x.Write([]byte(s)), api.ErrDown)
			want(t, x, sure, loose)
			wantE(t, "Swap without power", x.Swap([]byte(s)), api.ErrDown)
			want(t, x, sure, loose)
			wantE(t, "Sync without power", x.Sync(), api.ErrDown)
			want(t, x, sure, loose)
		}
		wantE(t, "Write of nil without power", x.Write(nil), api.ErrDown)
		wantE(t, "Swap of nil without power", x.Swap(nil), api.ErrDown)
		x.Fuse(fuse)
		want(t, x, sure, loose)
	}
}

// P10.2: of what is loose the first bytes are kept and sure, and the others are gone, whether the power was, or not.
func TestCrash(t *testing.T) {
	for n := range 5 {
		loose := "cdef"[:n]
		for _, keep := range append([]int{4, 5}, numbers...) {
			kept := loose[:min(max(keep, 0), n)]
			for _, x := range []*tape.Tape{made(t, "ab", loose), gone(t, "ab", loose)} {
				x.Crash(keep)
				want(t, x, "ab"+kept, "")
				x.Crash(keep)
				want(t, x, "ab"+kept, "")
				wantE(t, "Write", x.Write([]byte("xyz")), api.OK)
				want(t, x, "ab"+kept, "xyz")
			}
		}
	}
	x := tape.New()
	x.Crash(1)
	want(t, x, "", "")
}

// P10.2: behind a crash the power is there, and no fuse: one from ahead of the power's going, one that still counted, or one from behind.
func TestCrashFuse(t *testing.T) {
	burnt := made(t, "ab", "")
	burnt.Fuse(1)
	wantE(t, "Write", burnt.Write([]byte("cd")), api.ErrDown)
	counting := made(t, "ab", "c")
	counting.Fuse(1)
	nought := made(t, "ab", "c")
	nought.Fuse(0)
	behind := gone(t, "ab", "c")
	behind.Fuse(1)
	below := gone(t, "ab", "c")
	below.Fuse(-1)
	for _, x := range []*tape.Tape{burnt, counting, nought, behind, below} {
		want(t, x, "ab", "c")
		x.Crash(1)
		want(t, x, "abc", "")
		for range 3 {
			wantE(t, "Write", x.Write([]byte(all())), api.OK)
			wantE(t, "Sync", x.Sync(), api.OK)
			wantE(t, "Swap", x.Swap([]byte(all())), api.OK)
			want(t, x, all(), "")
		}
		x.Fuse(1)
		wantE(t, "Write", x.Write([]byte("uv")), api.ErrDown)
		wantDown(t, x, all(), "u")
		x.Crash(0)
		want(t, x, all(), "")
		wantE(t, "Sync", x.Sync(), api.OK)
	}
}

// P10.1, P10.2: where there is no tape there is nothing, with any argument.
func TestNil(t *testing.T) {
	var x *tape.Tape
	for range 2 {
		for _, b := range [][]byte{nil, {}, []byte("a"), []byte(all())} {
			wantE(t, "Write", x.Write(b), api.ErrArg)
			wantE(t, "Swap", x.Swap(b), api.ErrArg)
		}
		wantE(t, "Sync", x.Sync(), api.ErrArg)
		if b := x.Bytes(); len(b) != 0 {
			t.Errorf("Bytes: %q", b)
		}
		if n := x.Sure(); n != 0 {
			t.Errorf("Sure: %d", n)
		}
		for _, n := range numbers {
			x.Fuse(n)
			x.Crash(n)
		}
	}
}

// R1: a tape that New did not make is one without bytes.
func TestZero(t *testing.T) {
	var x tape.Tape
	want(t, &x, "", "")
	wantE(t, "Sync", x.Sync(), api.OK)
	wantE(t, "Write", x.Write([]byte("ab")), api.OK)
	want(t, &x, "", "ab")
	y := new(tape.Tape)
	y.Crash(1)
	wantE(t, "Swap", y.Swap([]byte("ab")), api.OK)
	want(t, y, "ab", "")
	z := &tape.Tape{}
	z.Fuse(1)
	wantE(t, "Write", z.Write([]byte("ab")), api.ErrDown)
	want(t, z, "", "a")
}

// R4: what is handed in is not changed, its spare room neither, and not kept: by an empty tape, too, and if the fuse lets but a part of it be done.
func TestHandedIn(t *testing.T) {
	calls := []func(x *tape.Tape, b []byte) api.Errno{(*tape.Tape).Write, (*tape.Tape).Swap}
	for _, call := range calls {
		for fuse := range 6 {
			for _, x := range []*tape.Tape{tape.New(), made(t, "uv", "w"), made(t, "uv", "")} {
				room := []byte("abcdefgh")
				x.Fuse(fuse)
				call(x, room[:3])
				wantNotKept(t, x, room)
				x.Crash(9)
				call(x, room[:3])
				x.Write([]byte("xyz"))
				x.Sync()
				wantNotKept(t, x, room)
			}
		}
	}
}

// wantNotKept fails if what was handed in is not as it was, or if a tape changes with it.
func wantNotKept(t *testing.T, x *tape.Tape, room []byte) {
	t.Helper()
	if string(room) != "abcdefgh" {
		t.Errorf("what was handed in is %q", room)
	}
	before := string(x.Bytes())
	copy(room, "!!!!!!!!")
	if after := string(x.Bytes()); after != before {
		t.Errorf("%q was %q", after, before)
	}
	copy(room, "abcdefgh")
}

// R4: what is answered is new memory: neither a tape nor another answer is seen in it, nor what comes behind.
func TestAnswered(t *testing.T) {
	for _, n := range []int{0, 1, 2, 3, 5, 8, 31, 32, 33, 100, 1000, api.MaxTape} {
		s := strings.Repeat("s", n)
		x := made(t, s, "l")
		first, second := x.Bytes(), x.Bytes()
		if cap(first) != len(first) {
			t.Errorf("%d bytes, and room for %d", len(first), cap(first))
		}
		for i := range first {
			first[i] = '!'
		}
		grown := append(second, "more"...)
		want(t, x, s, "l")
		wantE(t, "Write", x.Write([]byte("xyz")), api.OK)
		third := x.Bytes()
		x.Crash(2)
		wantE(t, "Swap", x.Swap([]byte("w")), api.OK)
		if string(second) != s+"l" || string(third) != s+"lxyz" || string(grown) != s+"lmore" || !bytes.Equal(first, bytes.Repeat([]byte("!"), n+1)) {
			t.Errorf("of %d bytes: an answer changed behind its call", n)
		}
	}
}

// R5: a tape that is another one's copy goes its own way: no more bytes grow in those that they share.
func TestCopied(t *testing.T) {
	for n := range 70 {
		s := strings.Repeat("s", n)
		x := made(t, s, "abc")
		y := *x
		wantE(t, "Write", x.Write([]byte("x")), api.OK)
		wantE(t, "Write", y.Write([]byte("y")), api.OK)
		want(t, x, s, "abcx")
		want(t, &y, s, "abcy")
		z := *x
		x.Crash(1)
		wantE(t, "Write", x.Write([]byte("uvw")), api.OK)
		want(t, x, s+"a", "uvw")
		want(t, &y, s, "abcy")
		want(t, &z, s, "abcx")
		z.Fuse(0)
		wantE(t, "Sync", z.Sync(), api.ErrDown)
		wantE(t, "Sync", y.Sync(), api.OK)
	}
}

// told is a tape in other words: how many bytes the fuse lets be done (below 0: there is none), and each byte that is there.
type told struct {
	sure, loose string
	fuse        int
	down        bool
}

func (m *told) write(s string) api.Errno {
	for i := range len(s) {
		if m.tick() != api.OK {
			break
		}
		m.loose += s[i : i+1]
	}
	return m.state()
}

func (m *told) sync() api.Errno {
	if m.tick() == api.OK {
		m.sure, m.loose = m.sure+m.loose, ""
	}
	return m.state()
}

func (m *told) swap(s string) api.Errno {
	for range len(s) + 1 {
		m.tick()
	}
	if m.state() == api.OK {
		m.sure, m.loose = s, ""
	}
	return m.state()
}

func (m *told) crash(keep int) {
	if keep > len(m.loose) {
		keep = len(m.loose)
	}
	*m = told{sure: m.sure + m.loose[:keep], fuse: -1}
}

// tick does one byte.
func (m *told) tick() api.Errno {
	if m.fuse == 0 {
		m.down = true
	} else if m.fuse > 0 {
		m.fuse--
	}
	return m.state()
}

func (m *told) state() api.Errno {
	if m.down {
		return api.ErrDown
	}
	return api.OK
}

// step is a call of a tape and of what is told of it, and whether both answer the same.
type step struct {
	name string
	do   func(x *tape.Tape, m *told) bool
}

// steps has the calls that are gone through.
func steps() []step {
	var list []step
	for _, s := range []string{"", "a", "bcd"} {
		list = append(list,
			step{"Write " + s, func(x *tape.Tape, m *told) bool { return x.Write([]byte(s)) == m.write(s) }},
			step{"Swap " + s, func(x *tape.Tape, m *told) bool { return x.Swap([]byte(s)) == m.swap(s) }})
	}
	list = append(list, step{"Sync", func(x *tape.Tape, m *told) bool { return x.Sync() == m.sync() }})
	for _, n := range []int{0, 1, 2, 4} {
		list = append(list, step{"Fuse " + strconv.Itoa(n), func(x *tape.Tape, m *told) bool {
			x.Fuse(n)
			m.fuse = n
			return true
		}})
	}
	for _, n := range []int{0, 2, 4} {
		list = append(list, step{"Crash " + strconv.Itoa(n), func(x *tape.Tape, m *told) bool {
			x.Crash(n)
			m.crash(n)
			return true
		}})
	}
	return list
}

// P10.1, P10.2: each row of five calls, done from the beginning, comes to what is told byte by byte.
func TestEachRow(t *testing.T) {
	list := steps()
	var walk func(row []step)
	walk = func(row []step) {
		if len(row) == 5 {
			wantRow(t, row)
			return
		}
		for _, s := range list {
			walk(append(row, s))
		}
	}
	walk(make([]step, 0, 5))
}

func wantRow(t *testing.T, row []step) {
	x, m := tape.New(), told{fuse: -1}
	for i, s := range row {
		same := s.do(x, &m)
		if !same || string(x.Bytes()) != m.sure+m.loose || x.Sure() != len(m.sure) {
			var names []string
			for _, s := range row[:i+1] {
				names = append(names, s.name)
			}
			t.Fatalf("%q: %q, %d sure; want %q and %q; the same error: %t", names, x.Bytes(), x.Sure(), m.sure, m.loose, same)
		}
	}
}

// P3: wherever the power goes, and whatever is kept, there is a front of what was written, with all that was sure.
func TestPowerGoes(t *testing.T) {
	parts := []string{"one", "", "two", "three"}
	for fuse := range 20 {
		for keep := range 12 {
			x, sofar, sure := tape.New(), "", 0
			x.Fuse(fuse)
			for _, s := range parts {
				sofar += s
				if x.Write([]byte(s)) != api.OK || x.Sync() != api.OK {
					break
				}
				sure = len(sofar)
			}
			x.Crash(keep)
			got := string(x.Bytes())
			if !strings.HasPrefix(sofar, got) || len(got) < sure || x.Sure() != len(got) {
				t.Errorf("Fuse %d, Crash %d: %q, %d sure; %d of %q were", fuse, keep, got, x.Sure(), sure, sofar)
			}
		}
	}
}
