package row_test

import (
	"fmt"
	"math"
	"math/big"
	"math/rand"
	"reflect"
	"regexp"
	"slices"
	"strconv"
	"strings"
	"testing"

	"exequatur/api"
	"exequatur/row"
)

// decimal is a number's text.
var decimal = regexp.MustCompile(`^(0|-?[1-9][0-9]*)$`)

// fields is how many texts the rows have; of a family's, those ahead of Old.
const (
	sessionFields = 12
	codeFields    = 13
	familyFields  = 11
)

// mark answers a family's mark.
func mark(revoked bool) string {
	if revoked {
		return "1"
	}
	return "0"
}

// textsOf answers the texts of which the row of a session, a code or a family should be, by the fields of its type.
func textsOf(x any) []string {
	v := reflect.ValueOf(x)
	var list, last []string
	for i := range v.NumField() {
		switch f := v.Field(i); f.Kind() {
		case reflect.String:
			list = append(list, f.String())
		case reflect.Int:
			list = append(list, fmt.Sprint(f.Int()))
		case reflect.Slice:
			last = f.Interface().([]string)
		case reflect.Bool:
			list = append(list, mark(f.Bool()))
		}
	}
	return append(list, last...)
}

// plainRead reads a row as another program does, by the fields of its type; false of what is none.
func plainRead[T any](s string) (T, bool) {
	var x, none T
	list, ok := plainSplit(s)
	v := reflect.ValueOf(&x).Elem()
	var old reflect.Value
	for i := range v.NumField() {
		f := v.Field(i)
		if f.Kind() == reflect.Slice {
			old = f
			continue
		}
		if !ok || len(list) == 0 || !plainField(f, list[0]) {
			return none, false
		}
		list = list[1:]
	}
	if old.IsValid() {
		old.Set(reflect.ValueOf(list))
		return x, true
	}
	if len(list) > 0 {
		return none, false
	}
	return x, true
}

// plainField puts into a field what a text says; false, if it says nothing of that kind.
func plainField(f reflect.Value, s string) bool {
	switch f.Kind() {
	case reflect.String:
		f.SetString(s)
		return true
	case reflect.Bool:
		f.SetBool(s == "1")
		return s == "0" || s == "1"
	}
	n, ok := new(big.Int).SetString(s, 10)
	if !ok || !decimal.MatchString(s) || n.Cmp(big.NewInt(math.MinInt)) < 0 || n.Cmp(big.NewInt(math.MaxInt)) > 0 {
		return false
	}
	f.SetInt(n.Int64())
	return true
}

// wantRead fails if a reader's answer is not what another program reads; it answers whether s is such a row.
func wantRead[T any](t *testing.T, read func(s string) (T, api.Errno), s string) bool {
	t.Helper()
	want, ok := plainRead[T](s)
	wantE := api.OK
	if !ok {
		wantE = api.ErrForm
	}
	if got, e := read(s); e != wantE || !slices.Equal(textsOf(got), textsOf(want)) {
		t.Errorf("reading a %T of %d bytes, %.200q: %.200q, %d; want %.200q, %d", want, len(s), s, textsOf(got), e, textsOf(want), wantE)
	}
	return ok
}

// wantReads fails if a reader's answer is not what another program reads, of any of the three.
func wantReads(t *testing.T, s string) {
	t.Helper()
	wantRead(t, row.ReadSession, s)
	wantRead(t, row.ReadCode, s)
	wantRead(t, row.ReadFamily, s)
}

// wantRow fails if the row of x is not as another program makes it, or its reader is no way back.
func wantRow[T any](t *testing.T, print func(x T) string, read func(s string) (T, api.Errno), x T) {
	t.Helper()
	want := laid(textsOf(x)...)
	if got := print(x); got != want {
		t.Errorf("the row of a %T: %.200q; want %.200q", x, got, want)
	}
	if got, e := read(want); e != api.OK || !slices.Equal(textsOf(got), textsOf(x)) {
		t.Errorf("reading %.200q: %.200q, %d", want, textsOf(got), e)
	}
}

func wantSession(t *testing.T, x api.Session) {
	t.Helper()
	wantRow(t, row.Session, row.ReadSession, x)
	if got, e := row.ReadSession(row.Session(x)); e != api.OK || got != x {
		t.Errorf("ReadSession: %.200q, %d; want %.200q", textsOf(got), e, textsOf(x))
	}
}

func wantCode(t *testing.T, x api.Code) {
	t.Helper()
	wantRow(t, row.Code, row.ReadCode, x)
	if got, e := row.ReadCode(row.Code(x)); e != api.OK || got != x {
		t.Errorf("ReadCode: %.200q, %d; want %.200q", textsOf(got), e, textsOf(x))
	}
}

func wantFamily(t *testing.T, x api.Family) {
	t.Helper()
	wantRow(t, row.Family, row.ReadFamily, x)
	got, e := row.ReadFamily(row.Family(x))
	if e != api.OK || !slices.Equal(got.Old, x.Old) || got.Revoked != x.Revoked || got.Up != x.Up {
		t.Errorf("ReadFamily: %.200q, %d; want %.200q", textsOf(got), e, textsOf(x))
	}
}

// session, code and family are as a broker has them: no two fields are the same.
func session() api.Session {
	return api.Session{Cookie: "ck", Client: "app", Redirect: "https://a.b/c?d=e", State: "st", Nonce: "no", Scope: "openid x", Challenge: "ch",
		Stage: 1, Conn: "up", UpState: "us", UpNonce: "un", Ends: 600}
}

func code() api.Code {
	return api.Code{Code: "co", Client: "app", Redirect: "https://a.b/c", Challenge: "ch", Nonce: "no", Scope: "openid",
		User: "up:sub", Conn: "up", Sub: "sub", Claims: `{"a":[1]}`, Refresh: "re", Ends: 60, Family: "fam"}
}

func family() api.Family {
	return api.Family{ID: "fam", Client: "app", User: "up:sub", Conn: "up", Sub: "sub", Nonce: "no", Scope: "openid", Claims: "{}",
		Refresh: "r3", Up: "u3", Old: []string{"r2", "r1"}}
}

// P13.1: the rows, as the chapter tells them: fields in api's order, and of a family Old last.
func TestRowsKnown(t *testing.T) {
	revoked := family()
	revoked.Revoked, revoked.Old = true, nil
	for _, x := range []struct{ got, want string }{
		{row.Session(session()), "2:ck3:app17:https://a.b/c?d=e2:st2:no8:openid x2:ch1:12:up2:us2:un3:600"},
		{row.Session(api.Session{}), "0:0:0:0:0:0:0:1:00:0:0:1:0"},
		{row.Session(api.Session{Stage: -2, Ends: -17}), "0:0:0:0:0:0:0:2:-20:0:0:3:-17"},
		{row.Code(code()), `2:co3:app13:https://a.b/c2:ch2:no6:openid6:up:sub2:up3:sub9:{"a":[1]}2:re2:603:fam`},
		{row.Code(api.Code{}), "0:0:0:0:0:0:0:0:0:0:0:1:00:"},
		{row.Code(api.Code{Ends: -5}), "0:0:0:0:0:0:0:0:0:0:0:2:-50:"},
		{row.Family(family()), "3:fam3:app6:up:sub2:up3:sub2:no6:openid2:{}2:r32:u31:02:r22:r1"},
		{row.Family(revoked), "3:fam3:app6:up:sub2:up3:sub2:no6:openid2:{}2:r32:u31:1"},
		{row.Family(api.Family{}), "0:0:0:0:0:0:0:0:0:0:1:0"},
		{row.Family(api.Family{Old: []string{"", "0:"}, Revoked: true}), "0:0:0:0:0:0:0:0:0:0:1:10:2:0:"},
	} {
		if x.got != x.want {
			t.Errorf("a row is %q; want %q", x.got, x.want)
		}
	}
	wantSession(t, session())
	wantSession(t, api.Session{})
	wantCode(t, code())
	wantCode(t, api.Code{})
	wantFamily(t, family())
	wantFamily(t, revoked)
	wantFamily(t, api.Family{})
}

// texts are some that a row may hold, at any place.
func texts() []string {
	list := []string{"", "a", "0", "1", "-1", ":", "0:", "1:a", "é", "\xff", "\x00", "a\nb", laid("a", "b"), bytesEach(), some(1000), some(api.MaxTape + 1)}
	for i := range 256 {
		list = append(list, string([]byte{byte(i)}), string([]byte{byte(i), ':', byte(i)}))
	}
	return list
}

// numbers are some, at the ends and at the edges of digits.
func numbers() []int {
	list := []int{math.MinInt, math.MinInt + 1, math.MaxInt, math.MaxInt - 1, math.MinInt32, math.MaxInt32, api.MaxClock, -api.MaxClock}
	for n := 1; n <= 1000000000; n *= 10 {
		list = append(list, n-1, n, n+1, 1-n, -n, -n-1)
	}
	for n := -130; n <= 130; n++ {
		list = append(list, n)
	}
	return list
}

// each calls f with x, of which one field has another text, or all have, and, of an int's or a bool's field, another value.
func each[T any](x T, f func(x T)) {
	v := reflect.ValueOf(&x).Elem()
	set := func(field reflect.Value, y any) {
		was := reflect.ValueOf(field.Interface())
		field.Set(reflect.ValueOf(y))
		f(x)
		field.Set(was)
	}
	for i := range v.NumField() {
		switch field := v.Field(i); field.Kind() {
		case reflect.String:
			for _, s := range texts() {
				set(field, s)
			}
		case reflect.Int:
			for _, n := range numbers() {
				set(field, n)
			}
		case reflect.Slice:
			for _, s := range texts() {
				set(field, []string{s})
				set(field, []string{"a", s, s})
			}
		case reflect.Bool:
			set(field, true)
			set(field, false)
		}
	}
}

// P13.1: any text and any number in each field.
func TestRowsEachField(t *testing.T) {
	for _, x := range []api.Session{{}, session()} {
		each(x, func(x api.Session) { wantSession(t, x) })
	}
	for _, x := range []api.Code{{}, code()} {
		each(x, func(x api.Code) { wantCode(t, x) })
	}
	for _, x := range []api.Family{{}, family()} {
		each(x, func(x api.Family) { wantFamily(t, x) })
	}
}

// P13.1: Old of any length, also of more than MaxOld, with empty ones and the same ones.
func TestOld(t *testing.T) {
	x := family()
	for n := range 200 {
		x.Old = slices.Repeat([]string{""}, n)
		wantFamily(t, x)
		for i := range x.Old {
			x.Old[i] = strconv.Itoa(i % 7)
		}
		x.Revoked = n%2 == 1
		wantFamily(t, x)
		if n > 0 {
			x.Old[n-1] = laid(x.Old...)
			wantFamily(t, x)
		}
	}
	for _, list := range [][]string{nil, {}} {
		wantFamily(t, api.Family{Old: list})
	}
}

// rowed answers the row of these texts, of which that at i is s.
func rowed(list []string, i int, s string) string {
	list = slices.Clone(list)
	list[i] = s
	return laid(list...)
}

// P13.1: texts at the number's places that are none, or none that fits an int, or not as it is printed.
func TestReadNumber(t *testing.T) {
	wrong := []string{"", "-", "+", "-0", "+0", "+1", "--1", "-+1", "00", "01", "-01", "000", "007", " ", " 1", "1 ", "1\n", "\x001", "1\x00", "0x1", "1e3", "1.0", "1.", ".5", "1_000", "1,000",
		"a", "1a", "a1", "true", "null", "１", "١", "−1", "\xff", ":", "1:", strings.Repeat("0", 1000), strings.Repeat("9", 1000), "-" + strings.Repeat("9", 1000)}
	for _, n := range []int64{1, 2, 3, math.MaxInt64} {
		for _, end := range []int64{math.MinInt64, math.MaxInt64} {
			sum := new(big.Int).Add(big.NewInt(end), big.NewInt(end/math.MaxInt64*n))
			wrong = append(wrong, sum.String())
		}
	}
	wrong = append(wrong, "18446744073709551615", "18446744073709551616", "18446744073709551617", "-18446744073709551616", "340282366920938463463374607431768211457")
	for _, s := range wrong {
		for _, list := range [][]string{textsOf(session()), textsOf(api.Session{})} {
			for _, i := range []int{7, 11} {
				if wantRead(t, row.ReadSession, rowed(list, i, s)) {
					t.Errorf("%q is no number", s)
				}
			}
		}
		for _, list := range [][]string{textsOf(code()), textsOf(api.Code{})} {
			if wantRead(t, row.ReadCode, rowed(list, 11, s)) {
				t.Errorf("%q is no number", s)
			}
		}
	}
}

// P13.1: texts at the mark's place that are neither 1 nor 0.
func TestReadMark(t *testing.T) {
	for _, list := range [][]string{textsOf(family()), textsOf(api.Family{})} {
		for _, s := range append(texts(), "2", "-0", "00", "01", "10", "11", "+1", "true", "false", " 1", "1 ", "0 ", "\x31\x00", "yes", "１") {
			if wantRead(t, row.ReadFamily, rowed(list, familyFields-1, s)) != (s == "0" || s == "1") {
				t.Errorf("is %q a mark?", s)
			}
		}
	}
}

// P13.1: one text less, wherever, and more: what has not so many as the row's fields is none.
func TestReadCount(t *testing.T) {
	check := func(list []string, reads func(s string) bool, fields int, more bool) {
		for n := range len(list) + 1 {
			if reads(laid(list[:n]...)) != (n == fields || more && n > fields) {
				t.Errorf("a row of %d of %q", n, list)
			}
			reads(laid(list[n:]...))
			if n < len(list) {
				reads(laid(slices.Delete(slices.Clone(list), n, n+1)...))
			}
			for _, s := range []string{"", "0", "1", "a"} {
				reads(laid(slices.Insert(slices.Clone(list), n, s)...))
			}
		}
	}
	check(append(textsOf(session()), "", "0", "1"), func(s string) bool { return wantRead(t, row.ReadSession, s) }, sessionFields, false)
	check(append(textsOf(code()), "", "0", "1"), func(s string) bool { return wantRead(t, row.ReadCode, s) }, codeFields, false)
	check(textsOf(family()), func(s string) bool { return wantRead(t, row.ReadFamily, s) }, familyFields, true)
	for _, s := range []string{"", "0", "1"} {
		for n := range 30 {
			wantReads(t, laid(slices.Repeat([]string{s}, n)...))
		}
	}
}

// P13.1: the texts of a row at each other's places.
func TestReadPlaces(t *testing.T) {
	for _, list := range [][]string{textsOf(session()), textsOf(code()), textsOf(family())} {
		for i := range list {
			for k := range i {
				swapped := slices.Clone(list)
				swapped[i], swapped[k] = list[k], list[i]
				wantReads(t, laid(swapped...))
			}
		}
	}
}

// P13.1: rows of another kind are none, unless they say just the same as one.
func TestReadOthers(t *testing.T) {
	for _, s := range []string{row.Session(session()), row.Code(code()), row.Family(family()), row.Session(api.Session{}), row.Code(api.Code{}), row.Family(api.Family{})} {
		read := 0
		for _, ok := range []bool{wantRead(t, row.ReadSession, s), wantRead(t, row.ReadCode, s), wantRead(t, row.ReadFamily, s)} {
			if ok {
				read++
			}
		}
		if read != 1 {
			t.Errorf("%q is read %d times", s, read)
		}
	}
	both := slices.Repeat([]string{"1"}, 20)
	if !wantRead(t, row.ReadSession, laid(both[:sessionFields]...)) || !wantRead(t, row.ReadFamily, laid(both[:sessionFields]...)) || !wantRead(t, row.ReadCode, laid(both[:codeFields]...)) {
		t.Error("a row of ones")
	}
}

// P13.1: with any byte of it another one, gone, or come in, and wherever it is cut off, a row is read as another program reads it.
func TestReadChanged(t *testing.T) {
	for _, s := range []string{row.Session(session()), row.Code(code()), row.Family(family()), row.Session(api.Session{Stage: -1, Ends: 10}), row.Code(api.Code{Ends: -10}), row.Family(api.Family{Revoked: true})} {
		changes(s, "0129:-+ a\x00\xff", func(s string) { wantReads(t, s) })
		for n := range len(s) {
			wantReads(t, s[:n])
			wantReads(t, s[n:])
		}
		wantReads(t, s+s)
	}
}

// R1, R3: what is no Texts is no row, and beside the error there is nothing.
func TestReadNoTexts(t *testing.T) {
	for _, s := range []string{"", "x", ":", "0", "0:", "1:a", "2:a", strings.Repeat("0:", 1000), strings.Repeat("1:1", 1000), strings.Repeat("1:0", codeFields) + "x", some(1000), strings.Repeat("\x00", 1000), `{"Cookie":"a"}`} {
		wantReads(t, s)
	}
}

// P13.1: rows of texts and numbers as they come.
func TestRowsRandom(t *testing.T) {
	r := rand.New(rand.NewSource(13))
	text := func() string {
		b := make([]byte, r.Intn(12))
		for i := range b {
			b[i] = ":019-a\x00\xff"[r.Intn(8)]
		}
		return string(b)
	}
	fill := func(v reflect.Value) {
		for i := range v.NumField() {
			switch f := v.Field(i); f.Kind() {
			case reflect.String:
				f.SetString(text())
			case reflect.Int:
				f.SetInt(int64(r.Uint64() >> r.Intn(64)))
			case reflect.Bool:
				f.SetBool(r.Intn(2) == 1)
			case reflect.Slice:
				for range r.Intn(5) {
					f.Set(reflect.Append(f, reflect.ValueOf(text())))
				}
			}
		}
	}
	for range 3000 {
		var s api.Session
		var c api.Code
		var f api.Family
		fill(reflect.ValueOf(&s).Elem())
		fill(reflect.ValueOf(&c).Elem())
		fill(reflect.ValueOf(&f).Elem())
		wantSession(t, s)
		wantCode(t, c)
		wantFamily(t, f)
		wantReads(t, row.Session(s)[1:])
		wantReads(t, row.Code(c)+"0:")
		wantReads(t, row.Family(f)+"0:")
	}
}

// R4: Old is not changed, its spare room neither, and no two answers share it.
func TestRowsMemory(t *testing.T) {
	whole := []string{"a", "b", "spare", "room"}
	x := family()
	x.Old = whole[:2]
	s := row.Family(x)
	if !slices.Equal(whole, []string{"a", "b", "spare", "room"}) {
		t.Errorf("Family: what was handed in is %q", whole)
	}
	one, _ := row.ReadFamily(s)
	two, _ := row.ReadFamily(s)
	clear(one.Old[:cap(one.Old)])
	if !slices.Equal(two.Old, []string{"a", "b"}) {
		t.Errorf("ReadFamily: an answer changed with another: %q", two.Old)
	}
	whole[0] = "other"
	if again, _ := row.ReadFamily(s); !slices.Equal(again.Old, []string{"a", "b"}) {
		t.Errorf("ReadFamily: an answer changed with what was handed in: %q", again.Old)
	}
}
