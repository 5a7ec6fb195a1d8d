package store_test

import (
	"bytes"
	"crypto/sha256"
	"encoding/binary"
	"io"
	"maps"
	"math/rand"
	"slices"
	"strconv"
	"strings"
	"testing"

	"exequatur/api"
	"exequatur/short"
	"exequatur/store"
	"exequatur/tape"
)

// rows is what a store should have: values by their keys.
type rows = map[string]string

// put and gone are the two kinds of changes.
func put(key, value string) api.Change { return api.Change{Key: key, Value: value} }
func gone(key string) api.Change       { return api.Change{Key: key, Gone: true} }

// num answers a number's four bytes.
func num(n int) string {
	return string(binary.BigEndian.AppendUint32(nil, uint32(n)))
}

// counted answers how many bytes s has, and these.
func counted(s string) string {
	return num(len(s)) + s
}

// record answers the record of list, as chapter 12 tells it.
func record(list ...api.Change) string {
	s := num(len(list))
	for _, c := range list {
		if c.Gone {
			s += num(1) + counted(c.Key) + num(0)
		} else {
			s += num(0) + counted(c.Key) + counted(c.Value)
		}
	}
	return s
}

// framed answers the frame of s, as another program of the same sum makes it.
func framed(s string) string {
	sum := sha256.Sum256([]byte(counted(s)))
	return num(len(s)) + string(sum[:4]) + s
}

// all answers the record of all rows, by key.
func all(r rows) string {
	var list []api.Change
	for _, key := range slices.Sorted(maps.Keys(r)) {
		list = append(list, put(key, r[key]))
	}
	return record(list...)
}

// behind answers what r is behind the changes of list.
func behind(r rows, list ...api.Change) rows {
	out := maps.Clone(r)
	for _, c := range list {
		delete(out, c.Key)
		if !c.Gone {
			out[c.Key] = c.Value
		}
	}
	return out
}

// bytesEach has every byte once, in order.
func bytesEach() string {
	var b [256]byte
	for i := range b {
		b[i] = byte(i)
	}
	return string(b[:])
}

// some answers n bytes that follow no short rule, the same ones each time.
func some(n int) string {
	b := make([]byte, n)
	rand.New(rand.NewSource(12)).Read(b)
	return string(b)
}

// taped answers a tape with sure bytes, and loose ones behind them.
func taped(t *testing.T, sure, loose string) *tape.Tape {
	t.Helper()
	x := tape.New()
	if x.Write([]byte(sure)) != api.OK || x.Sync() != api.OK || x.Write([]byte(loose)) != api.OK {
		t.Fatal("no tape")
	}
	return x
}

// down takes the power.
func down(t *testing.T, x *tape.Tape) {
	t.Helper()
	x.Fuse(0)
	wantE(t, "Sync", x.Sync(), api.ErrDown)
}

func wantE(t *testing.T, call string, got, e api.Errno) {
	t.Helper()
	if got != e {
		t.Errorf("%s: %d; want %d", call, got, e)
	}
}

// opened answers the store of a tape that has one.
func opened(t *testing.T, x *tape.Tape) *store.Store {
	t.Helper()
	s, e := store.Open(x)
	if e != api.OK || s == nil {
		t.Fatalf("Open of %d bytes: %d", len(x.Bytes()), e)
	}
	return s
}

// wantNone fails if a tape opens, or is changed by it.
func wantNone(t *testing.T, x *tape.Tape, e api.Errno) {
	t.Helper()
	b, sure := x.Bytes(), x.Sure()
	if s, got := store.Open(x); s != nil || got != e {
		t.Errorf("Open of %d bytes, %.100q: %t, %d; want none, %d", len(b), b, s != nil, got, e)
	}
	if !bytes.Equal(x.Bytes(), b) || x.Sure() != sure {
		t.Errorf("Open of %d bytes, %.100q: the tape is changed", len(b), b)
	}
}

// wantRows fails if s has not these rows.
func wantRows(t *testing.T, s *store.Store, want rows) {
	t.Helper()
	got := rows{}
	for _, key := range s.Keys("") {
		value, ok := s.Get(key)
		if _, twice := got[key]; twice || !ok {
			t.Errorf("Get(%.20q): %t, of a key of Keys; there twice: %t", key, ok, twice)
		}
		got[key] = value
	}
	if !maps.Equal(got, want) {
		t.Errorf("rows: %.200q; want %.200q", got, want)
	}
	for _, key := range []string{"none", "no\x00ne", strings.Repeat("none", 100)} {
		if value, ok := s.Get(key); value != "" || ok {
			t.Errorf("Get(%.20q): %.20q, %t; want nothing", key, value, ok)
		}
	}
}

// wantTape fails if x has not these bytes, all sure.
func wantTape(t *testing.T, x *tape.Tape, want string) {
	t.Helper()
	if got := string(x.Bytes()); got != want || x.Sure() != len(want) {
		t.Errorf("tape: %d bytes, %.200q, %d of them sure; want %d, %.200q", len(got), got, x.Sure(), len(want), want)
	}
}

// P12.1, R1: nothing of a nil store, of a nil tape, and of a store that was not opened.
func TestNothing(t *testing.T) {
	if s, e := store.Open(nil); s != nil || e != api.ErrArg {
		t.Errorf("Open(nil): %t, %d", s != nil, e)
	}
	var none *store.Store
	for _, list := range [][]api.Change{nil, {}, {put("a", "b")}, {gone("a")}, {put("a", strings.Repeat("b", api.MaxRecord))}} {
		wantE(t, "Do of a nil store", none.Do(list...), api.ErrArg)
	}
	zero := new(store.Store)
	wantE(t, "Do of a store without a tape", zero.Do(put("a", "b"), gone("c")), api.ErrArg)
	for _, s := range []*store.Store{none, zero} {
		for _, key := range []string{"", "a", "none"} {
			if value, ok := s.Get(key); value != "" || ok {
				t.Errorf("Get(%q): %q, %t", key, value, ok)
			}
			if list := s.Keys(key); len(list) != 0 {
				t.Errorf("Keys(%q): %q", key, list)
			}
		}
	}
}

// P12.1: a new tape has no rows, and Open writes nothing on it.
func TestNew(t *testing.T) {
	x := tape.New()
	s := opened(t, x)
	wantRows(t, s, rows{})
	wantTape(t, x, "")
	if value, ok := s.Get(""); value != "" || ok || len(s.Keys("")) != 0 {
		t.Errorf("Get of an empty key: %q, %t, and %q", value, ok, s.Keys(""))
	}
}

// A record that is written out: two changes, the second one's row gone.
func TestRecordKnown(t *testing.T) {
	want := "\x00\x00\x00\x02" +
		"\x00\x00\x00\x00" + "\x00\x00\x00\x02ab" + "\x00\x00\x00\x01c" +
		"\x00\x00\x00\x01" + "\x00\x00\x00\x01d" + "\x00\x00\x00\x00"
	x := tape.New()
	s := opened(t, x)
	wantE(t, "Do", s.Do(put("ab", "c"), gone("d")), api.OK)
	got := string(x.Bytes())
	if len(got) != 8+len(want) || got[8:] != want || x.Sure() != len(got) {
		t.Errorf("record: %q; want %q", got, want)
	}
}

// steps has lists of changes, to be done one behind the other, and the rows that there are behind each.
func steps() (lists [][]api.Change, each []rows) {
	long := some(api.MaxText)
	lists = [][]api.Change{
		{put("a", "1")},
		{put("b", "2"), put("c", "3")},
		{put("a", "other")},
		{gone("b")},
		{gone("b"), gone("never")},
		{put("", "of an empty key"), put("empty", "")},
		{put("twice", "first"), put("twice", "second")},
		{put("twice", "third"), gone("twice")},
		{gone("twice"), put("twice", "fourth")},
		{put("a", "other")},
		{put("\x00", "\x00\x00\x00\x01"), put("\xff\xfe", "é\xff")},
		{put(bytesEach(), bytesEach())},
		{put("long", long), put(long, "long")},
		{gone(long), gone("")},
		{put("c", ""), put("d", "4"), gone("c"), put("c", "5"), gone("d")},
	}
	now := rows{}
	for _, list := range lists {
		now = behind(now, list...)
		each = append(each, now)
	}
	return lists, each
}

// P12.1: each Do writes the frame of its record, sure, and its rows are there at once, and behind a Crash and an Open.
func TestDo(t *testing.T) {
	x, y := tape.New(), tape.New()
	one, again, laid := opened(t, x), opened(t, y), ""
	lists, each := steps()
	for i, list := range lists {
		laid += framed(record(list...))
		for _, s := range []*store.Store{one, again} {
			wantE(t, "Do", s.Do(list...), api.OK)
			wantRows(t, s, each[i])
		}
		wantTape(t, x, laid)
		wantTape(t, y, laid)
		y.Crash(i - 2)
		again = opened(t, y)
		wantRows(t, again, each[i])
		wantTape(t, y, laid)
	}
}

// P12.1: of a row that is gone the record has no value, whatever the change has.
func TestGoneValue(t *testing.T) {
	x := tape.New()
	s := opened(t, x)
	wantE(t, "Do", s.Do(put("a", "b"), put("c", "d")), api.OK)
	was := string(x.Bytes())
	for _, value := range []string{"b", "x", "\x00", strings.Repeat("v", 4*api.MaxRecord)} {
		wantE(t, "Do", s.Do(api.Change{Key: "a", Value: value, Gone: true}), api.OK)
		was += framed(num(1) + num(1) + counted("a") + num(0))
		wantTape(t, x, was)
		wantRows(t, s, rows{"c": "d"})
	}
	wantRows(t, opened(t, x), rows{"c": "d"})
}

// P12.1: Do of none does nothing, also without power.
func TestDoNone(t *testing.T) {
	x := tape.New()
	s := opened(t, x)
	wantE(t, "Do of none", s.Do(), api.OK)
	wantTape(t, x, "")
	wantE(t, "Do", s.Do(put("a", "b")), api.OK)
	was := string(x.Bytes())
	x.Fuse(0)
	for _, list := range [][]api.Change{nil, {}} {
		wantE(t, "Do of none", s.Do(list...), api.OK)
	}
	down(t, x)
	wantE(t, "Do of none, without power", s.Do(), api.OK)
	wantTape(t, x, was)
	wantRows(t, s, rows{"a": "b"})
}

// P12.1: each byte, in a key and in a value.
func TestEachByte(t *testing.T) {
	x := tape.New()
	s, want := opened(t, x), rows{}
	for i := range 256 {
		for _, c := range []api.Change{put(string([]byte{byte(i)}), "v"), put("k"+string([]byte{byte(i)}), string([]byte{byte(i), 'v'}))} {
			wantE(t, "Do", s.Do(c), api.OK)
			want = behind(want, c)
		}
	}
	wantRows(t, s, want)
	wantRows(t, opened(t, x), want)
	for i := range 256 {
		key := string([]byte{byte(i)})
		wantE(t, "Do", s.Do(gone(key)), api.OK)
		want = behind(want, gone(key))
	}
	wantRows(t, s, want)
	wantRows(t, opened(t, x), want)
}

// P12.1: Open of frames that stand on a tape, sure or loose: their changes are done one by one, and nothing is written.
func TestOpen(t *testing.T) {
	lists, each := steps()
	laid := ""
	for i, list := range lists {
		laid += framed(record(list...))
		for _, sure := range []int{0, 1, len(laid) / 2, len(laid)} {
			x := taped(t, laid[:sure], laid[sure:])
			x.Fuse(0)
			wantRows(t, opened(t, x), each[i])
			if string(x.Bytes()) != laid || x.Sure() != sure {
				t.Errorf("Open of %d bytes, %d of them sure: %d, and %d", len(laid), sure, len(x.Bytes()), x.Sure())
			}
			down(t, x)
			wantRows(t, opened(t, x), each[i])
		}
	}
	none := framed(record())
	wantRows(t, opened(t, taped(t, none, "")), rows{})
	wantRows(t, opened(t, taped(t, none+framed(record(put("a", "b")))+none, none)), rows{"a": "b"})
}

// P12.1: more than a Do would lay on it: a tape may have more than MaxTape bytes ahead of an Open.
func TestOpenLarge(t *testing.T) {
	laid, want := "", rows{}
	for i := range 5 {
		c := put(strconv.Itoa(i), some(api.MaxRecord-17))
		if s := record(c); len(s) != api.MaxRecord {
			t.Fatal(len(s))
		}
		laid += framed(record(c))
		want = behind(want, c)
	}
	x := taped(t, laid, "")
	s := opened(t, x)
	wantRows(t, s, want)
	wantTape(t, x, laid)
	wantE(t, "Do", s.Do(put("5", "")), api.ErrFull)
	wantTape(t, x, laid)
	wantRows(t, s, want)
	want = rows{"0": want["0"]}
	wantE(t, "Do", s.Do(gone("1"), gone("2"), gone("3"), gone("4")), api.OK)
	wantTape(t, x, framed(all(want)))
	wantRows(t, s, want)
}

// behinds has what is no frame.
func behinds() []string {
	good := framed(record(put("x", "y")))
	large := framed(record(put("x", strings.Repeat("y", api.MaxRecord))))
	wrong := good[:4] + string(good[4]^1) + good[5:]
	return []string{"\x00", "a", num(0), num(1), num(0) + num(0), good[:1], good[:7], good[:8], good[:len(good)-1],
		wrong, wrong + good, "a" + good, large, large + good, strings.Repeat("\x00", 100), strings.Repeat("\xff", api.MaxTape)}
}

// P12.1: what is behind the frames is cut off, and the frames are sure then.
func TestOpenCuts(t *testing.T) {
	for _, front := range []string{"", framed(record(put("a", "1"))), framed(record(put("a", "0"), put("b", "2"))) + framed(record(put("a", "1"), gone("b")))} {
		want := rows{"a": "1"}
		if front == "" {
			want = rows{}
		}
		for _, rest := range behinds() {
			for _, sure := range []int{0, len(front) / 2, len(front), len(front) + 1, len(front + rest)} {
				x := taped(t, (front + rest)[:sure], (front + rest)[sure:])
				s := opened(t, x)
				wantRows(t, s, want)
				wantTape(t, x, front)
				wantE(t, "Do", s.Do(put("c", "3")), api.OK)
				wantTape(t, x, front+framed(record(put("c", "3"))))
				wantRows(t, opened(t, x), behind(want, put("c", "3")))
			}
		}
	}
}

// P12.1: an Open that can't cut answers the tape's error, and changes nothing.
func TestOpenDown(t *testing.T) {
	front := framed(record(put("a", "1"))) + framed(record(put("b", "2")))
	for _, rest := range behinds() {
		for _, fuse := range []int{-1, 0, 1, 2, len(front) - 1, len(front)} {
			x := taped(t, front, rest)
			x.Fuse(fuse)
			wantNone(t, x, api.ErrDown)
			wantNone(t, x, api.ErrDown)
			x.Crash(1)
			wantRows(t, opened(t, x), rows{"a": "1", "b": "2"})
			wantTape(t, x, front)
		}
		x := taped(t, front, rest)
		x.Fuse(len(front) + 1)
		wantRows(t, opened(t, x), rows{"a": "1", "b": "2"})
		wantTape(t, x, front)
	}
	x := taped(t, "", "a")
	x.Fuse(0)
	wantNone(t, x, api.ErrDown)
}

// wrongs has what no record is.
func wrongs() []string {
	good := record(put("a", "b"))
	return []string{
		"", "\x00", num(0)[1:], num(0) + "\x00", num(0) + num(0), num(1), num(1) + num(0), num(1) + num(0) + num(0),
		"\x01\x00\x00\x00", num(2) + good[4:], num(0) + good[4:], num(1<<32-1) + good[4:], num(1<<31) + good[4:],
		good[:len(good)-1], good + "\x00", good + good[4:], good + num(0),
		num(1) + num(2) + good[8:], num(1) + num(1<<31) + good[8:], num(1) + num(1<<24) + good[8:], num(1) + num(1<<32-1) + good[8:],
		num(1) + num(1) + counted("a") + counted("b"), num(1) + num(1) + counted("a"), num(1) + num(1) + counted("a") + num(1), num(1) + num(1) + num(0),
		num(1) + num(0) + num(2) + "a" + num(0), num(1) + num(0) + num(6) + "a" + num(0), num(1) + num(0) + num(1<<31) + "a" + num(0),
		num(1) + num(0) + num(1<<32-1) + "a" + num(0), num(1) + num(0) + counted("a") + num(2) + "b",
		num(1) + num(0) + counted("a") + num(1<<31), num(1) + num(0) + counted("a") + num(1<<32-1) + "b",
		"\x00\x00\x00\x01" + "\x00" + counted("a") + counted("b"), "1:a1:b", good[4:],
		strings.Repeat("\x00", 1000), strings.Repeat("\xff", 1000), strings.Repeat(num(1), 1000),
	}
}

// P12.1: ErrForm of a whole frame that is no record, wherever among those at the front, ahead of the tape's error.
func TestOpenForm(t *testing.T) {
	good := framed(record(put("a", "1")))
	for _, w := range wrongs() {
		for _, front := range []string{"", good, good + good} {
			for _, rest := range []string{"", "a", good, good + "a"} {
				for _, sure := range []int{0, len(front + framed(w) + rest)} {
					laid := front + framed(w) + rest
					x := taped(t, laid[:sure], laid[sure:])
					wantNone(t, x, api.ErrForm)
					x.Fuse(0)
					wantNone(t, x, api.ErrForm)
					down(t, x)
					wantNone(t, x, api.ErrForm)
				}
			}
		}
		x := taped(t, good+"a"+framed(w), "")
		wantRows(t, opened(t, x), rows{"a": "1"})
		wantTape(t, x, good)
	}
}

// readRecord reads a record as another program does; false of what is none.
func readRecord(s string) ([]api.Change, bool) {
	r := strings.NewReader(s)
	number := func() int {
		var n uint32
		if binary.Read(r, binary.BigEndian, &n) != nil {
			return -1
		}
		return int(n)
	}
	text := func() (string, bool) {
		n := number()
		if n < 0 || n > r.Len() {
			return "", false
		}
		b := make([]byte, n)
		_, err := io.ReadFull(r, b)
		return string(b), err == nil
	}
	var list []api.Change
	for n := number(); n != len(list); {
		kind := number()
		key, okKey := text()
		value, okValue := text()
		if n < 0 || !okKey || !okValue || kind != 0 && (kind != 1 || value != "") {
			return nil, false
		}
		list = append(list, api.Change{Key: key, Value: value, Gone: kind == 1})
	}
	return list, r.Len() == 0
}

// P12.1: each short row of numbers and bytes is a record if another program reads it so, and then comes to the same changes.
func TestOpenEach(t *testing.T) {
	pieces := map[rune]string{'0': num(0), '1': num(1), '2': num(2), '3': num(1 << 31), 'a': "a", '-': "\x00"}
	first, records := put("first", "row"), 0
	short.Texts("0123a-", 7, func(plan string) {
		b := ""
		for _, p := range plan {
			b += pieces[p]
		}
		list, ok := readRecord(b)
		if !ok {
			s, e := store.Open(taped(t, framed(b), ""))
			if s != nil || e != api.ErrForm {
				t.Errorf("Open of %q, which is no record: %t, %d", b, s != nil, e)
			}
			return
		}
		records++
		wantRows(t, opened(t, taped(t, framed(record(first))+framed(b), "")), behind(rows{"first": "row"}, list...))
	})
	if records < 50 {
		t.Errorf("%d records only", records)
	}
}

// P12.1: wherever a tape is cut off, and whichever bit of it is another, there is what the whole frames ahead come to.
func TestOpenBroken(t *testing.T) {
	lists := [][]api.Change{{put("a", "1"), put("b", "2")}, {gone("a")}, {put("a", "3"), put("", "")}, {put("b", "44"), gone("")}}
	laid, ends, each := "", []int{0}, []rows{{}}
	for i, list := range lists {
		laid += framed(record(list...))
		ends = append(ends, len(laid))
		each = append(each, behind(each[i], list...))
	}
	for n := range len(laid) + 1 {
		whole := 0
		for whole+1 < len(ends) && ends[whole+1] <= n {
			whole++
		}
		x := taped(t, laid[:n], "")
		wantRows(t, opened(t, x), each[whole])
		wantTape(t, x, laid[:ends[whole]])
		for bit := 0; n < len(laid) && bit < 8; bit++ {
			b := []byte(laid)
			b[n] ^= 1 << bit
			x := taped(t, string(b), "")
			wantRows(t, opened(t, x), each[whole])
			wantTape(t, x, laid[:ends[whole]])
		}
	}
}
