package store_test

import (
	"fmt"
	"maps"
	"math/rand"
	"runtime"
	"slices"
	"strconv"
	"strings"
	"testing"

	"exequatur/api"
	"exequatur/store"
	"exequatur/tape"
)

// value answers one with which the record of a row of that key has n bytes.
func value(key string, n int) string {
	return some(n - len(record(put(key, ""))))
}

// changesOf answers changes, each of 16 bytes of their record.
func changesOf(n int) []api.Change {
	var list []api.Change
	for i := range n {
		list = append(list, put(fmt.Sprintf("%04d", i), ""))
	}
	return list
}

// P12.1: a record has at most MaxRecord bytes, whatever it is of; power and room count for nothing ahead of that.
func TestDoLarge(t *testing.T) {
	whole := (api.MaxRecord - 4) / 16
	rest := api.MaxRecord - 4 - 16*whole // 12: a change with an empty key, and an empty value
	fits := [][]api.Change{
		{put("k", value("k", api.MaxRecord))},
		{put(value("", api.MaxRecord), "")},
		{gone(value("", api.MaxRecord))},
		{api.Change{Key: value("", api.MaxRecord), Value: some(api.MaxTape), Gone: true}},
		append(changesOf(whole), put("", some(rest-12))),
		append(changesOf(whole), gone("")),
	}
	for i, list := range fits {
		if n := len(record(list...)); n != api.MaxRecord {
			t.Fatalf("%d: %d bytes", i, n)
		}
		more := slices.Clone(list)
		more[len(more)-1].Key += "+"
		x := tape.New()
		s := opened(t, x)
		wantE(t, "Do of too much", s.Do(more...), api.ErrLarge)
		wantTape(t, x, "")
		wantRows(t, s, rows{})
		wantE(t, "Do", s.Do(list...), api.OK)
		wantTape(t, x, framed(record(list...)))
		want := behind(rows{}, list...)
		wantRows(t, s, want)
		wantRows(t, opened(t, x), want)
		wantE(t, "Do of too much", s.Do(more...), api.ErrLarge)
		x.Fuse(0)
		wantE(t, "Do of too much", s.Do(more...), api.ErrLarge)
		down(t, x)
		wantE(t, "Do of too much, without power", s.Do(more...), api.ErrLarge)
		wantTape(t, x, framed(record(list...)))
		wantRows(t, s, want)
	}
	s := opened(t, tape.New())
	for _, list := range [][]api.Change{
		{put("a", "b"), put("k", strings.Repeat("v", api.MaxRecord)), gone("k")},
		{put("k", strings.Repeat("v", api.MaxTape))},
		{put(strings.Repeat("k", 1<<24), "")},
		changesOf(whole + 1),
		make([]api.Change, 1<<16),
	} {
		wantE(t, "Do of too much", s.Do(list...), api.ErrLarge)
		wantRows(t, s, rows{})
	}
}

// filled answers a tape of just n bytes, and its store with one row: the rest are changes that change none.
func filled(t *testing.T, n int) (*tape.Tape, *store.Store, rows) {
	t.Helper()
	x := tape.New()
	s, want := opened(t, x), rows{"b": some(10000)}
	wantE(t, "Do", s.Do(put("b", want["b"])), api.OK)
	fill(t, x, s, n)
	return x, s, want
}

// fill does changes that change no row, till the tape has just n bytes.
func fill(t *testing.T, x *tape.Tape, s *store.Store, n int) {
	t.Helper()
	least := len(framed(record(gone(""))))
	for left := n - len(x.Bytes()); left > 0; left = n - len(x.Bytes()) {
		take := min(left, 8+api.MaxRecord)
		if rest := left - take; rest > 0 && rest < least {
			take -= least
		}
		wantE(t, "Do", s.Do(gone(some(take-least))), api.OK)
	}
}

// P12.1: a tape has at most MaxTape bytes: what would be more comes as one record of all rows, by key.
func TestDoSwaps(t *testing.T) {
	lists := [][]api.Change{
		{put("c", "3")},
		{put("c", "3"), put("a", "1"), put("", "0"), put("\xff", "\xff"), put("bb", "2"), put("B", "-"), put("b\x00", "+")},
		{put("b", "short")},
		{gone("b")},
		{gone("never")},
		{gone("b"), put("a", "1"), gone("a")},
		{put("a", "1"), put("b", value("b", api.MaxRecord-100)), gone("b"), put("a", "2")},
	}
	for i, list := range lists {
		b := framed(record(list...))
		for _, over := range []int{-1, 0, 1, 2, len(b)} {
			x, s, was := filled(t, api.MaxTape-len(b)+over)
			want := string(x.Bytes()) + b
			if over > 0 {
				want = framed(all(behind(was, list...)))
			}
			wantE(t, "Do", s.Do(list...), api.OK)
			wantTape(t, x, want)
			wantRows(t, s, behind(was, list...))
			x.Crash(i)
			s = opened(t, x)
			wantRows(t, s, behind(was, list...))
			wantTape(t, x, want)
			wantE(t, "Do", s.Do(put("more", "rows")), api.OK)
			wantRows(t, opened(t, x), behind(was, append(list, put("more", "rows"))...))
		}
	}
	x, s, _ := filled(t, api.MaxTape)
	wantE(t, "Do", s.Do(gone("b")), api.OK)
	wantTape(t, x, framed(num(0)))
	wantRows(t, opened(t, x), rows{})
}

// P12.1: bytes count that are on the tape, also loose ones, and those of another.
func TestDoSwapsLoose(t *testing.T) {
	for _, over := range []int{0, 1} {
		x := tape.New()
		s := opened(t, x)
		b := framed(record(put("a", "1")))
		n := api.MaxTape - len(b) + over
		wantE(t, "Write", x.Write([]byte(strings.Repeat("x", n))), api.OK)
		want := strings.Repeat("x", n) + b
		if over > 0 {
			want = framed(all(rows{"a": "1"}))
		}
		wantE(t, "Do", s.Do(put("a", "1")), api.OK)
		wantTape(t, x, want)
	}
}

// P12.1: ErrFull, if the record of all rows has more than MaxRecord bytes; power counts for nothing ahead of that.
func TestDoFull(t *testing.T) {
	for _, more := range []int{-1, 0, 1, 2, 1000} {
		x, s, was := filled(t, 20000)
		last := put("c", some(api.MaxRecord-len(all(behind(was, put("c", ""))))+more))
		want := behind(was, last)
		fill(t, x, s, api.MaxTape-len(framed(record(last)))+1)
		if n := len(all(want)); n != api.MaxRecord+more {
			t.Fatalf("%d bytes", n)
		}
		if more <= 0 {
			wantE(t, "Do", s.Do(last), api.OK)
			wantTape(t, x, framed(all(want)))
			wantRows(t, s, want)
			wantRows(t, opened(t, x), want)
			continue
		}
		laid := string(x.Bytes())
		wantE(t, "Do of too much", s.Do(last), api.ErrFull)
		x.Fuse(0)
		wantE(t, "Do of too much", s.Do(last), api.ErrFull)
		down(t, x)
		wantE(t, "Do of too much, without power", s.Do(last), api.ErrFull)
		wantTape(t, x, laid)
		wantRows(t, s, was)
		x.Crash(0)
		wantRows(t, opened(t, x), was)
		// What is gone behind it makes room.
		wantE(t, "Do", s.Do(last, gone("b")), api.OK)
		wantTape(t, x, framed(all(behind(want, gone("b")))))
		wantRows(t, s, behind(want, gone("b")))
	}
}

// P12.1: wherever the power goes, the Do answers ErrDown and changes no row; behind the Crash there is all of it, or nothing.
func TestDoDown(t *testing.T) {
	was := rows{"a": "1", "b": "2"}
	list := []api.Change{put("c", "3"), gone("a"), put("b", "4")}
	front, b := framed(record(put("a", "1"), put("b", "2"))), framed(record(list...))
	for fuse := range len(b) + 3 {
		for keep := -1; keep < len(b)+2; keep++ {
			x := taped(t, front, "")
			s := opened(t, x)
			x.Fuse(fuse)
			want := behind(was, list...)
			if fuse > len(b) {
				wantE(t, "Do", s.Do(list...), api.OK)
				wantTape(t, x, front+b)
			} else {
				wantE(t, "Do", s.Do(list...), api.ErrDown)
				wantRows(t, s, was)
				wantE(t, "Do without power", s.Do(put("d", "5")), api.ErrDown)
				wantE(t, "Do without power", s.Do(gone("a")), api.ErrDown)
				if got := string(x.Bytes()); got != (front + b)[:len(front)+fuse] || x.Sure() != len(front) {
					t.Errorf("fuse %d: %q, %d of them sure", fuse, got, x.Sure())
				}
				wantRows(t, s, was)
				if min(fuse, keep) < len(b) {
					want = was
				}
			}
			x.Crash(keep)
			s = opened(t, x)
			wantRows(t, s, want)
			wantTape(t, x, front+b[:len(x.Bytes())-len(front)])
			wantE(t, "Do", s.Do(put("d", "5")), api.OK)
			wantRows(t, opened(t, x), behind(want, put("d", "5")))
		}
	}
}

// P12.1: so it is where all rows are swapped.
func TestDoSwapDown(t *testing.T) {
	list := []api.Change{put("c", "3"), put("b", "2")}
	b := framed(all(rows{"b": "2", "c": "3"}))
	for fuse := range len(b) + 3 {
		x, s, was := filled(t, api.MaxTape)
		full := string(x.Bytes())
		x.Fuse(fuse)
		if fuse > len(b) {
			wantE(t, "Do", s.Do(list...), api.OK)
			wantTape(t, x, b)
			wantRows(t, s, rows{"b": "2", "c": "3"})
			continue
		}
		wantE(t, "Do", s.Do(list...), api.ErrDown)
		wantE(t, "Do without power", s.Do(list...), api.ErrDown)
		wantTape(t, x, full)
		wantRows(t, s, was)
		x.Crash(fuse)
		wantRows(t, opened(t, x), was)
		wantTape(t, x, full)
	}
}

// P12.1: Open takes what is loose and whole, also where a Sync lacked the power.
func TestOpenLoose(t *testing.T) {
	x := tape.New()
	s := opened(t, x)
	b := framed(record(put("a", "1")))
	x.Fuse(len(b))
	wantE(t, "Do", s.Do(put("a", "1")), api.ErrDown)
	wantRows(t, s, rows{})
	wantRows(t, opened(t, x), rows{"a": "1"})
	x.Crash(len(b))
	wantTape(t, x, b)
	wantRows(t, opened(t, x), rows{"a": "1"})
}

// P12.1: Keys answers those with the prefix, rising byte by byte, each once.
func TestKeys(t *testing.T) {
	list := []string{"", "a", "b", "aa", "ab", "a\x00", "a\xff", "A", "\x00", "\xff", "\xff\xff", "é", "\xc3", "abc", "aé", "sa", "s", "cs", " ", "~", "\x7f", "\x80", "10", "9", "1"}
	r := rand.New(rand.NewSource(1))
	for range 20 {
		r.Shuffle(len(list), func(i, k int) { list[i], list[k] = list[k], list[i] })
		x := tape.New()
		s := opened(t, x)
		for _, key := range list {
			wantE(t, "Do", s.Do(put(key, "of "+key)), api.OK)
		}
		wantE(t, "Do", s.Do(gone("abc"), put("abd", "")), api.OK)
		for _, s := range []*store.Store{s, opened(t, x)} {
			for _, prefix := range append(list, "abd", "abde", "aaa", "none", "\xff\xff\xff", "é.", "\xc3\xa8", strings.Repeat("a", 1000)) {
				var want []string
				for _, key := range append(slices.Clone(list), "abd") {
					if strings.HasPrefix(key, prefix) && key != "abc" {
						want = append(want, key)
					}
				}
				slices.Sort(want)
				if got := s.Keys(prefix); !slices.Equal(got, want) {
					t.Errorf("Keys(%.20q): %q; want %q", prefix, got, want)
				}
			}
		}
	}
}

// P12.1: Get answers the value of that very key; none is as good as another.
func TestGet(t *testing.T) {
	s := opened(t, tape.New())
	wantE(t, "Do", s.Do(put("a", "1"), put("A", "2"), put("a ", "3"), put("empty", ""), put("b", "4"), gone("b")), api.OK)
	for _, w := range []struct {
		key, value string
		ok         bool
	}{{"a", "1", true}, {"A", "2", true}, {"a ", "3", true}, {"empty", "", true}, {"b", "", false}, {"", "", false}, {" a", "", false}, {"a\x00", "", false}, {"empt", "", false}} {
		if value, ok := s.Get(w.key); value != w.value || ok != w.ok {
			t.Errorf("Get(%q): %q, %t; want %q, %t", w.key, value, ok, w.value, w.ok)
		}
	}
	wantE(t, "Do", s.Do(put("", "5")), api.OK)
	if value, ok := s.Get(""); value != "5" || !ok {
		t.Errorf("Get of an empty key: %q, %t", value, ok)
	}
}

// R4: what is handed in is not changed, nor is its spare room, and nothing of it is kept.
func TestHandedIn(t *testing.T) {
	for _, n := range []int{1, api.MaxTape} {
		x := tape.New()
		if n > 1 {
			x, _, _ = filled(t, api.MaxTape)
		}
		s := opened(t, x)
		list := []api.Change{put("a", "1"), {Key: "b", Value: "of none", Gone: true}, put("c", "3"), put("spare", "room"), gone("spare")}
		was := slices.Clone(list)
		wantE(t, "Do", s.Do(list[:3]...), api.OK)
		if !slices.Equal(list, was) {
			t.Errorf("Do: list is %v now", list)
		}
		want := rows{"a": "1", "c": "3"}
		clear(list)
		wantRows(t, s, want)
		wantRows(t, opened(t, x), want)
	}
}

// R4: a key and a value that are pieces of a greater text do not hold it in memory.
func TestNotHeld(t *testing.T) {
	s := opened(t, tape.New())
	for i := range 64 {
		great := strconv.Itoa(100+i) + strings.Repeat("v", 1<<20)
		wantE(t, "Do", s.Do(put(great[:3], great[3:6]), gone(great[6:9])), api.OK)
	}
	runtime.GC()
	var m runtime.MemStats
	runtime.ReadMemStats(&m)
	if m.HeapAlloc > 32<<20 {
		t.Errorf("%d bytes are held", m.HeapAlloc)
	}
	if value, ok := s.Get("163"); value != "vvv" || !ok || len(s.Keys("1")) != 64 {
		t.Errorf("Get: %q, %t", value, ok)
	}
}

// R4: what is answered is new memory, and the tape's bytes are not the store's.
func TestAnswered(t *testing.T) {
	x := tape.New()
	s := opened(t, x)
	want := rows{"a": "1", "b": "2", "c": "3"}
	wantE(t, "Do", s.Do(put("a", "1"), put("b", "2"), put("c", "3")), api.OK)
	one, other := s.Keys(""), s.Keys("")
	clear(one[:cap(one)])
	if !slices.Equal(other, []string{"a", "b", "c"}) {
		t.Errorf("Keys: %q, when another answer is changed", other)
	}
	wantRows(t, s, want)
	again := opened(t, x)
	clear(x.Bytes())
	wantE(t, "Do", again.Do(gone("a"), put("b", "4")), api.OK)
	wantRows(t, s, want)
	wantRows(t, again, rows{"b": "4", "c": "3"})
	wantE(t, "Swap", x.Swap(nil), api.OK)
	wantRows(t, s, want)
	wantRows(t, again, rows{"b": "4", "c": "3"})
}

// R5: nothing is kept but in the store and on its tape, and the same calls have the same answers and bytes.
func TestAgain(t *testing.T) {
	walk := func() string {
		x := tape.New()
		s, out := opened(t, x), ""
		for i := range 300 {
			key := strconv.Itoa(i * 7 % 50)
			e := s.Do(put(key, some(i*i%997)), put("key "+key, ""), gone(strconv.Itoa(i%11)))
			out += fmt.Sprint(e, s.Keys("key 1"), len(x.Bytes()), " ")
		}
		return out + string(x.Bytes())
	}
	want := walk()
	for range 5 {
		if walk() != want {
			t.Fatal("the same calls have other answers")
		}
	}
}

// anyChange answers a change of one of a few keys.
func anyChange(r *rand.Rand) api.Change {
	c := api.Change{Key: strings.Repeat("k", r.Intn(4)), Gone: r.Intn(3) == 0}
	switch r.Intn(12) {
	case 0:
		c.Value = some(r.Intn(20000))
	case 1:
		c.Value = some(api.MaxRecord - r.Intn(100))
	default:
		c.Value = some(r.Intn(40))
	}
	return c
}

// told answers the error that a Do with power and without a fuse has, and how many bytes its frame has.
func told(now rows, onTape int, list []api.Change) (api.Errno, int) {
	if len(list) == 0 {
		return api.OK, 0
	}
	one, whole := record(list...), all(behind(now, list...))
	switch {
	case len(one) > api.MaxRecord:
		return api.ErrLarge, 0
	case onTape+8+len(one) <= api.MaxTape:
		return api.OK, 8 + len(one)
	case len(whole) > api.MaxRecord:
		return api.ErrFull, 0
	}
	return api.OK, 8 + len(whole)
}

// P3, P12.1: any row of Dos, fuses and crashes: behind each Open there is what was answered, with the Do under way, or without it.
func TestAnyRow(t *testing.T) {
	seen := map[api.Errno]int{}
	for seed := range 60 {
		r := rand.New(rand.NewSource(int64(seed)))
		x := tape.New()
		s, now := opened(t, x), rows{}
		for range 60 {
			var list []api.Change
			for range r.Intn(4) {
				list = append(list, anyChange(r))
			}
			want, n := told(now, len(x.Bytes()), list)
			fuse := r.Intn(2*n + 2)
			if n > 0 && r.Intn(3) == 0 {
				x.Fuse(fuse)
				if fuse <= n {
					want = api.ErrDown
				}
			}
			got := s.Do(list...)
			seen[got]++
			wantE(t, "Do", got, want)
			if got == api.OK {
				now = behind(now, list...)
			}
			wantRows(t, s, now)
			if got != api.ErrDown && r.Intn(4) > 0 {
				x.Fuse(1 << 30)
				continue
			}
			loose := len(x.Bytes()) - x.Sure()
			x.Crash(r.Intn(loose + 2))
			s = opened(t, x)
			if with := behind(now, list...); got == api.ErrDown && loose == n && maps.Equal(with, found(s)) {
				now = with
			}
			wantRows(t, s, now)
		}
	}
	for _, e := range []api.Errno{api.OK, api.ErrLarge, api.ErrFull, api.ErrDown} {
		if seen[e] < 20 {
			t.Errorf("error %d: %d times only", e, seen[e])
		}
	}
}

// found answers the rows that s has.
func found(s *store.Store) rows {
	out := rows{}
	for _, key := range s.Keys("") {
		out[key], _ = s.Get(key)
	}
	return out
}
