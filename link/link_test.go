package link_test

import (
	"fmt"
	"math/rand"
	"slices"
	"strings"
	"testing"

	"exequatur/api"
	"exequatur/link"
	"exequatur/short"
	"exequatur/store"
	"exequatur/tape"
)

// plainKey makes a link's key as another program does.
func plainKey(conn, sub string) string {
	return fmt.Sprintf("l%d:%s%d:%s", len(conn), conn, len(sub), sub)
}

// plainResolve resolves by the rows of a map, as another program does.
func plainResolve(rows map[string]string, c api.Conn, sub string) (string, []api.Change, api.Errno) {
	key := plainKey(c.ID, sub)
	if user, ok := rows[key]; ok {
		return user, nil, api.OK
	}
	links := 0
	for k := range rows {
		if len(k) > 0 && k[0] == 'l' {
			links++
		}
	}
	user := fmt.Sprintf("%s:%s", c.ID, sub)
	switch {
	case !c.Open:
		return "", nil, api.ErrNone
	case links > 31:
		return "", nil, api.ErrFull
	}
	return user, []api.Change{{Key: key, Value: user}}, api.OK
}

// plainRemove removes by the rows of a map, as another program does.
func plainRemove(rows map[string]string, conn, sub string) ([]api.Change, bool) {
	key := plainKey(conn, sub)
	if _, ok := rows[key]; !ok {
		return nil, false
	}
	return []api.Change{{Key: key, Gone: true}}, true
}

// open answers a store with rows, and its tape.
func open(t *testing.T, rows map[string]string) (*store.Store, *tape.Tape) {
	t.Helper()
	p := tape.New()
	s, e := store.Open(p)
	if e != api.OK {
		t.Fatal(e)
	}
	for k, v := range rows {
		do(t, s, api.Change{Key: k, Value: v})
	}
	return s, p
}

func do(t *testing.T, s *store.Store, list ...api.Change) {
	t.Helper()
	if e := s.Do(list...); e != api.OK {
		t.Fatalf("Do(%s): %d", told(list), e)
	}
}

// told answers what a value has in it, cut short.
func told(v any) string {
	return fmt.Sprintf("%.200q", fmt.Sprintf("%+v", v))
}

// same tells whether two lists of changes are; nil and empty ones are the same.
func same(a, b []api.Change) bool {
	return slices.Equal(a, b)
}

func wantFind(t *testing.T, s *store.Store, rows map[string]string, conn, sub string) {
	t.Helper()
	want, wantOK := rows[plainKey(conn, sub)]
	if got, ok := link.Find(s, conn, sub); got != want || ok != wantOK {
		t.Errorf("Find(%.100q, %.100q): %.100q, %v; want %.100q, %v", conn, sub, got, ok, want, wantOK)
	}
}

func wantResolve(t *testing.T, s *store.Store, rows map[string]string, c api.Conn, sub string) {
	t.Helper()
	want, wantList, wantE := plainResolve(rows, c, sub)
	got, list, e := link.Resolve(s, c, sub)
	if got != want || !same(list, wantList) || e != wantE {
		t.Errorf("Resolve(%s, %.100q) of %d rows: %.100q, %s, %d; want %.100q, %s, %d",
			told(c), sub, len(rows), got, told(list), e, want, told(wantList), wantE)
	}
}

func wantRemove(t *testing.T, s *store.Store, rows map[string]string, conn, sub string) {
	t.Helper()
	want, wantOK := plainRemove(rows, conn, sub)
	if list, ok := link.Remove(s, conn, sub); !same(list, want) || ok != wantOK {
		t.Errorf("Remove(%.100q, %.100q): %s, %v; want %s, %v", conn, sub, told(list), ok, told(want), wantOK)
	}
}

// wantAll holds every call for a subject against another program's, with the connector open and not.
func wantAll(t *testing.T, s *store.Store, rows map[string]string, conn, sub string) {
	t.Helper()
	wantFind(t, s, rows, conn, sub)
	wantRemove(t, s, rows, conn, sub)
	wantResolve(t, s, rows, api.Conn{ID: conn}, sub)
	wantResolve(t, s, rows, api.Conn{ID: conn, Open: true}, sub)
}

// P15.1: Key is l, and chapter 13's Texts of both.
func TestKeyKnown(t *testing.T) {
	for _, c := range []struct{ conn, sub, want string }{
		{"up", "a", "l2:up1:a"},
		{"a", "up", "l1:a2:up"},
		{"", "", "l0:0:"},
		{"", "a", "l0:1:a"},
		{"a", "", "l1:a0:"},
		{"1:a", ":", "l3:1:a1::"},
		{"\x00", "\xff\n", "l1:\x002:\xff\n"},
		{"é", "l", "l2:é1:l"},
		{"0123456789", "a", "l10:01234567891:a"},
	} {
		if got := link.Key(c.conn, c.sub); got != c.want {
			t.Errorf("Key(%q, %q): %q; want %q", c.conn, c.sub, got, c.want)
		}
	}
	long := strings.Repeat("x", 5000)
	if got := link.Key(long, long+"y"); got != "l5000:"+long+"5001:"+long+"y" {
		t.Errorf("Key of long texts: %.20q, %d bytes", got, len(got))
	}
}

// P15.1: no two subjects, of whatever connectors, have the same key.
func TestKeysUnlike(t *testing.T) {
	seen := map[string][2]string{}
	short.Texts("01:l\xff", 3, func(conn string) {
		short.Texts("01:l\xff", 3, func(sub string) {
			key := link.Key(conn, sub)
			if key != plainKey(conn, sub) {
				t.Errorf("Key(%q, %q): %q", conn, sub, key)
			}
			if old, ok := seen[key]; ok {
				t.Fatalf("%q is the key of %q and of %q, %q", key, old, conn, sub)
			}
			seen[key] = [2]string{conn, sub}
		})
	})
}

// P15.1, example 1: resolved twice, the change done in between: the second time without one.
func TestResolveTwice(t *testing.T) {
	s, _ := open(t, nil)
	c := api.Conn{ID: "up", Issuer: "https://up", Client: "b", Auth: "https://up/a", Secret: "x", Open: true, Rules: "text k w"}
	user, list, e := link.Resolve(s, c, "a")
	want := []api.Change{{Key: "l2:up1:a", Value: "up:a"}}
	if user != "up:a" || !same(list, want) || e != api.OK {
		t.Errorf("first: %q, %s, %d", user, told(list), e)
	}
	// The change was not done, so it is asked for again.
	if user, list, e := link.Resolve(s, c, "a"); user != "up:a" || !same(list, want) || e != api.OK {
		t.Errorf("again: %q, %s, %d", user, told(list), e)
	}
	do(t, s, list...)
	for _, isOpen := range []bool{true, false} {
		c.Open = isOpen
		if user, list, e := link.Resolve(s, c, "a"); user != "up:a" || len(list) != 0 || e != api.OK {
			t.Errorf("second, %v: %q, %s, %d", isOpen, user, told(list), e)
		}
	}
	if user, ok := link.Find(s, "up", "a"); user != "up:a" || !ok {
		t.Errorf("Find: %q, %v", user, ok)
	}
}

// P15.1: the change of Remove takes the link away, and it alone; then there is none to remove.
func TestRemove(t *testing.T) {
	rows := map[string]string{"l2:up1:a": "u", "l2:up1:b": "v", "l1:u2:pa": "w", "l3:up10:": "x", "s1": "y"}
	s, _ := open(t, rows)
	list, ok := link.Remove(s, "up", "a")
	if !ok || !same(list, []api.Change{{Key: "l2:up1:a", Gone: true}}) {
		t.Fatalf("Remove: %s, %v", told(list), ok)
	}
	// What is not done is not so.
	wantAll(t, s, rows, "up", "a")
	do(t, s, list...)
	delete(rows, "l2:up1:a")
	for _, x := range [][2]string{{"up", "a"}, {"up", "b"}, {"u", "pa"}, {"up1", ""}} {
		wantAll(t, s, rows, x[0], x[1])
	}
	if got := s.Keys(""); len(got) != len(rows) {
		t.Errorf("rows: %q", got)
	}
	if list, ok := link.Remove(s, "up", "a"); ok || len(list) != 0 {
		t.Errorf("twice: %s, %v", told(list), ok)
	}
	// A subject that was removed is linked again like any other.
	wantResolve(t, s, rows, api.Conn{ID: "up", Open: true}, "a")
	wantResolve(t, s, rows, api.Conn{ID: "up"}, "a")
}

// P15.1: the user is what the link's row has as its value, whatever that is, also an empty one.
func TestUserIsTheRows(t *testing.T) {
	for _, user := range []string{"", "up:b", "x", "l2:up1:a", "\x00\xff", strings.Repeat("u", 5000)} {
		rows := map[string]string{"l2:up1:a": user}
		s, _ := open(t, rows)
		wantAll(t, s, rows, "up", "a")
		if got, ok := link.Find(s, "up", "a"); got != user || !ok {
			t.Errorf("Find: %.20q, %v; want %.20q", got, ok, user)
		}
		if got, list, e := link.Resolve(s, api.Conn{ID: "up"}, "a"); got != user || len(list) != 0 || e != api.OK {
			t.Errorf("Resolve: %.20q, %s, %d; want %.20q", got, told(list), e, user)
		}
	}
}

// P15.1: a row is a link by its whole key: another connector's, another subject's, and a key that only looks like it are none.
func TestOthersKeys(t *testing.T) {
	rows := map[string]string{"l": "1", "l2:up": "2", "l2:up1:": "3", "l2:up1:ab": "4", "2:up1:a": "5", "L2:up1:a": "6", "l1:a2:up": "7", " l2:up1:a": "8", "up:a": "9", "l02:up1:a": "10", "": "11", "l2:upa": "12"}
	s, _ := open(t, rows)
	wantAll(t, s, rows, "up", "a")
	if user, ok := link.Find(s, "up", "a"); user != "" || ok {
		t.Errorf("Find: %q, %v", user, ok)
	}
}

// filled answers n rows of which each key begins with l.
func filled(n int, links bool) map[string]string {
	rows := map[string]string{}
	for i := range n {
		key := fmt.Sprintf("l%d", i)
		if links {
			key = plainKey("up", fmt.Sprint(i))
		}
		rows[key] = "u"
	}
	return rows
}

// P15.1: ErrFull from MaxLinks rows on whose keys begin with l, be they links or not; others are not counted.
func TestFull(t *testing.T) {
	c := api.Conn{ID: "up", Open: true}
	for n := range 2*api.MaxLinks + 2 {
		for _, links := range []bool{true, false} {
			rows := filled(n, links)
			for i := range 40 {
				rows[fmt.Sprintf("%cl2:up%d:", "scfLkm"[i%6], i)] = "x"
			}
			rows[""] = "x"
			s, _ := open(t, rows)
			_, _, e := link.Resolve(s, c, "new")
			if full := n >= api.MaxLinks; full != (e == api.ErrFull) || !full && e != api.OK {
				t.Errorf("%d rows, links %v: %d", n, links, e)
			}
			wantAll(t, s, rows, "up", "new")
			wantAll(t, s, rows, "up", "0")
		}
	}
}

// P15.1: a key that is l alone begins with l, too.
func TestFullByShortestKey(t *testing.T) {
	rows := filled(api.MaxLinks-1, true)
	s, _ := open(t, rows)
	wantResolve(t, s, rows, api.Conn{ID: "up", Open: true}, "new")
	rows["l"] = ""
	do(t, s, api.Change{Key: "l"})
	if user, list, e := link.Resolve(s, api.Conn{ID: "up", Open: true}, "new"); user != "" || len(list) != 0 || e != api.ErrFull {
		t.Errorf("%q, %s, %d", user, told(list), e)
	}
}

// P15.1, R2, R3: one that is linked is told ahead of all; then ErrNone, also where there is no room; then ErrFull; beside both nothing.
func TestOrderOfErrors(t *testing.T) {
	for _, n := range []int{0, api.MaxLinks - 1, api.MaxLinks, api.MaxLinks + 1} {
		rows := filled(n, true)
		s, _ := open(t, rows)
		if user, list, e := link.Resolve(s, api.Conn{ID: "up"}, "new"); user != "" || list != nil || e != api.ErrNone {
			t.Errorf("%d rows, not open: %q, %s, %d", n, user, told(list), e)
		}
		if n == 0 {
			continue
		}
		for _, isOpen := range []bool{true, false} {
			if user, list, e := link.Resolve(s, api.Conn{ID: "up", Open: isOpen}, "0"); user != "u" || list != nil || e != api.OK {
				t.Errorf("%d rows, linked, %v: %q, %s, %d", n, isOpen, user, told(list), e)
			}
		}
	}
	s, _ := open(t, filled(api.MaxLinks, true))
	if user, list, e := link.Resolve(s, api.Conn{ID: "up", Open: true}, "new"); user != "" || list != nil || e != api.ErrFull {
		t.Errorf("full: %q, %s, %d", user, told(list), e)
	}
}

// P15.1: by Resolve and its changes no more than MaxLinks are linked, and one that is removed makes room.
func TestFillUp(t *testing.T) {
	s, _ := open(t, nil)
	c := api.Conn{ID: "up", Open: true}
	for i := range api.MaxLinks {
		_, list, e := link.Resolve(s, c, fmt.Sprint(i))
		if e != api.OK || len(list) != 1 {
			t.Fatalf("%d: %s, %d", i, told(list), e)
		}
		do(t, s, list...)
	}
	if _, _, e := link.Resolve(s, c, "new"); e != api.ErrFull {
		t.Errorf("full: %d", e)
	}
	list, ok := link.Remove(s, "up", "7")
	if !ok {
		t.Fatal("Remove")
	}
	do(t, s, list...)
	if user, _, e := link.Resolve(s, c, "new"); user != "up:new" || e != api.OK {
		t.Errorf("with room: %q, %d", user, e)
	}
}

// P15.1, R1: connectors and subjects of any bytes, empty ones, too: each is linked, found and removed by itself.
func TestAnyBytes(t *testing.T) {
	some := []string{"", "a", ":", "1:a", "l", "\x00", "\xff\xfe", "é", "a b", "\n", strings.Repeat("z", 3000)}
	for c := range 256 {
		some = append(some, string([]byte{byte(c)}))
	}
	for _, conn := range some {
		for _, sub := range []string{"", ":", "s", conn} {
			rows := map[string]string{}
			s, _ := open(t, nil)
			wantAll(t, s, rows, conn, sub)
			user, list, e := link.Resolve(s, api.Conn{ID: conn, Open: true}, sub)
			if user != conn+":"+sub || len(list) != 1 || e != api.OK {
				t.Fatalf("Resolve(%.20q, %.20q): %.20q, %s, %d", conn, sub, user, told(list), e)
			}
			do(t, s, list...)
			rows[plainKey(conn, sub)] = user
			wantAll(t, s, rows, conn, sub)
			wantAll(t, s, rows, sub, conn)
			wantAll(t, s, rows, conn+sub, "")
		}
	}
}

// R1: a nil store, and the zero one, have no rows.
func TestNoStore(t *testing.T) {
	for _, s := range []*store.Store{nil, {}} {
		wantAll(t, s, nil, "up", "a")
		wantAll(t, s, nil, "", "")
	}
}

// P15.1, R5, R6: each call alone changes nothing, neither the rows nor the tape, and answers the same again.
func TestNothingDone(t *testing.T) {
	rows := filled(3, true)
	s, p := open(t, rows)
	keys, bytes, sure := s.Keys(""), p.Bytes(), p.Sure()
	for range 3 {
		for _, sub := range []string{"0", "new"} {
			wantAll(t, s, rows, "up", sub)
		}
	}
	if !slices.Equal(s.Keys(""), keys) || !slices.Equal(p.Bytes(), bytes) || p.Sure() != sure {
		t.Errorf("rows %q, tape %q, %d sure", s.Keys(""), p.Bytes(), p.Sure())
	}
}

// P15.1: without power, too, what is told is what stands.
func TestWithoutPower(t *testing.T) {
	rows := filled(3, true)
	s, p := open(t, rows)
	p.Fuse(0)
	if e := s.Do(api.Change{Key: "l", Value: "x"}); e != api.ErrDown {
		t.Fatal(e)
	}
	wantAll(t, s, rows, "up", "0")
	wantAll(t, s, rows, "up", "new")
}

// P15.1, P3: a link that was done stands behind a crash; one that was removed does not.
func TestBehindCrash(t *testing.T) {
	s, p := open(t, filled(2, true))
	_, list, _ := link.Resolve(s, api.Conn{ID: "up", Open: true}, "new")
	do(t, s, list...)
	list, _ = link.Remove(s, "up", "0")
	do(t, s, list...)
	p.Crash(0)
	s, e := store.Open(p)
	if e != api.OK {
		t.Fatal(e)
	}
	rows := map[string]string{"l2:up1:1": "u", "l2:up3:new": "up:new"}
	for _, sub := range []string{"0", "1", "new"} {
		wantAll(t, s, rows, "up", sub)
	}
}

// R4: what is answered is new memory, spare room included, and a connector is left as it is.
func TestMemory(t *testing.T) {
	rows := filled(3, true)
	s, _ := open(t, rows)
	c := api.Conn{ID: "up", Issuer: "i", Client: "c", Auth: "a", Secret: "s", Open: true, Rules: "r"}
	before := c
	_, first, _ := link.Resolve(s, c, "new")
	_, second, _ := link.Resolve(s, c, "new")
	removed, _ := link.Remove(s, "up", "0")
	other, _ := link.Remove(s, "up", "0")
	for _, list := range [][]api.Change{first, removed} {
		list = list[:cap(list)]
		for i := range list {
			list[i] = api.Change{Key: "x", Value: "y", Gone: true}
		}
	}
	if !same(second, []api.Change{{Key: "l2:up3:new", Value: "up:new"}}) || !same(other, []api.Change{{Key: "l2:up1:0", Gone: true}}) {
		t.Errorf("%s, %s", told(second), told(other))
	}
	wantAll(t, s, rows, "up", "0")
	wantAll(t, s, rows, "up", "new")
	if c != before {
		t.Errorf("connector: %s", told(c))
	}
}

// P15.1: rows of random calls, done and not done, against another program's rows.
func TestRandom(t *testing.T) {
	r := rand.New(rand.NewSource(15))
	some := []string{"", "a", "b", "ab", ":", "1:a", "l", "\xff"}
	pick := func() string { return some[r.Intn(len(some))] }
	for range 60 {
		rows := map[string]string{}
		s, _ := open(t, nil)
		for range 120 {
			conn, sub := pick(), pick()+pick()
			wantAll(t, s, rows, conn, sub)
			var list []api.Change
			switch r.Intn(5) {
			case 0:
				list, _ = link.Remove(s, conn, sub)
			case 1:
				list = []api.Change{{Key: pick() + pick(), Value: pick()}}
			default:
				_, list, _ = link.Resolve(s, api.Conn{ID: conn, Open: r.Intn(4) > 0}, sub)
			}
			do(t, s, list...)
			for _, c := range list {
				rows[c.Key] = c.Value
				if c.Gone {
					delete(rows, c.Key)
				}
			}
		}
	}
}
