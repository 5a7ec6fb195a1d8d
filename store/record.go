package store

import (
	"exequatur/api"
)

// field is how many bytes a number has.
const field = 4

// printed answers the record of list; false, if it has more than MaxRecord bytes.
func printed(list []api.Change) ([]byte, bool) {
	b := withNumber(nil, len(list))
	for _, c := range list {
		b = withChange(b, c)
		// Held here against the limit, so that of a long list no more is laid down than has room.
		if len(b) > api.MaxRecord {
			return nil, false
		}
	}
	return b, true
}

// withChange answers b, and behind it what a record has of c.
func withChange(b []byte, c api.Change) []byte {
	gone, value := 0, c.Value
	if c.Gone {
		gone, value = 1, ""
	}
	b = withNumber(b, gone)
	b = withText(b, c.Key)
	return withText(b, value)
}

// withText answers b, and behind it how many bytes s has, and these.
func withText(b []byte, s string) []byte {
	return append(withNumber(b, len(s)), s...)
}

// withNumber answers b, and behind it the bytes of n, the highest first.
func withNumber(b []byte, n int) []byte {
	return append(b, byte(n>>24), byte(n>>16), byte(n>>8), byte(n))
}

// read answers the changes of which b is the record; false, if it is none.
func read(b []byte) ([]api.Change, bool) {
	n, b, ok := number(b)
	var list []api.Change
	// However great n is: each change takes bytes, so that these end it.
	for range n {
		var c api.Change
		if c, b, ok = one(b); !ok {
			return nil, false
		}
		list = append(list, c)
	}
	if !ok || len(b) > 0 {
		return nil, false
	}
	return list, true
}

// one answers the change at the front of b, and what is behind it; false, if there is none.
func one(b []byte) (api.Change, []byte, bool) {
	gone, b, ok := number(b)
	if !ok || gone > 1 {
		return api.Change{}, nil, false
	}
	key, b, ok := text(b)
	if !ok {
		return api.Change{}, nil, false
	}
	value, b, ok := text(b)
	if !ok || gone == 1 && value != "" {
		return api.Change{}, nil, false
	}
	return api.Change{Key: key, Value: value, Gone: gone == 1}, b, true
}

// text answers the text at the front of b, ahead of which stands how many bytes it has, and what is behind it; false, if it is cut off.
func text(b []byte) (string, []byte, bool) {
	n, b, ok := number(b)
	// Not as an int, which may be too small for n.
	if !ok || uint64(n) > uint64(len(b)) {
		return "", nil, false
	}
	return string(b[:n]), b[n:], true
}

// number answers the number at the front of b, and what is behind it; false, if it is cut off.
func number(b []byte) (uint32, []byte, bool) {
	if len(b) < field {
		return 0, nil, false
	}
	var n uint32
	for _, c := range b[:field] {
		n = n<<8 | uint32(c)
	}
	return n, b[field:], true
}
