// Package text is layer 1: bytes as text, by base64url and by the quoting of forms.
package text

import (
	"strings"

	"exequatur/api"
)

const (
	sixes = "ABCDEFGHIJKLMNOPQRSTUVWXYZabcdefghijklmnopqrstuvwxyz0123456789-_"
	great = "0123456789ABCDEF"
)

// Encode answers b as base64url, without =.
func Encode(b string) string {
	out := make([]byte, 0, len(b)/3*4+3)
	var held uint32
	bits := 0
	for i := range len(b) {
		// Bits that were written already may wrap out at the top: none is read again.
		held = held<<8 | uint32(b[i])
		bits += 8
		for bits >= 6 {
			bits -= 6
			out = append(out, sixes[held>>bits&63])
		}
	}
	if bits > 0 {
		out = append(out, sixes[held<<(6-bits)&63])
	}
	return string(out)
}

// Decode answers that of which s is the Encode; ErrForm, if there is nothing of the kind.
func Decode(s string) (string, api.Errno) {
	out := make([]byte, 0, len(s)/4*3+3)
	var held uint32
	bits := 0
	for i := range len(s) {
		six := strings.IndexByte(sixes, s[i])
		if six < 0 {
			return "", api.ErrForm
		}
		held = held<<6 | uint32(six)
		bits += 6
		if bits >= 8 {
			bits -= 8
			out = append(out, byte(held>>bits))
		}
	}
	// Encode never ends in a character that no byte needs, and fills up with noughts alone.
	if bits >= 6 || held&(1<<bits-1) != 0 {
		return "", api.ErrForm
	}
	return string(out), api.OK
}

// Equal tells whether a and b are the same.
func Equal(a, b string) bool {
	unlike := len(a) ^ len(b)
	for i := range len(a) {
		// No way out of the loop: how long it takes must not tell where a secret differs.
		var other byte
		if i < len(b) {
			other = b[i]
		}
		unlike |= int(a[i] ^ other)
	}
	return unlike == 0
}

// Quote answers b with all bytes as % and two digits that a form can't hold as they are.
func Quote(b string) string {
	out := make([]byte, 0, len(b))
	for i := range len(b) {
		if c := b[i]; plain(c) {
			out = append(out, c)
		} else {
			out = append(out, '%', great[c>>4], great[c&15])
		}
	}
	return string(out)
}

// Unquote answers the bytes that s stands for in a form; ErrForm of a % without its two digits.
func Unquote(s string) (string, api.Errno) {
	out := make([]byte, 0, len(s))
	for i := 0; i < len(s); i++ {
		switch c := s[i]; c {
		case '+':
			out = append(out, ' ')
		case '%':
			b, ok := quoted(s[i+1:])
			if !ok {
				return "", api.ErrForm
			}
			out = append(out, b)
			i += 2
		default:
			out = append(out, c)
		}
	}
	return string(out), api.OK
}

// plain tells whether a byte stands as it is in a form.
func plain(c byte) bool {
	switch {
	case 'a' <= c && c <= 'z', 'A' <= c && c <= 'Z', '0' <= c && c <= '9':
		return true
	}
	return c == '-' || c == '.' || c == '_' || c == '~'
}

// quoted answers the byte whose two digits stand at the front of s.
func quoted(s string) (byte, bool) {
	if len(s) < 2 {
		return 0, false
	}
	high, ok1 := digit(s[0])
	low, ok2 := digit(s[1])
	if !ok1 || !ok2 {
		return 0, false
	}
	return high<<4 | low, true
}

// digit answers what a hexadecimal digit, great or small, counts.
func digit(c byte) (byte, bool) {
	switch {
	case '0' <= c && c <= '9':
		return c - '0', true
	case 'A' <= c && c <= 'F':
		return c - 'A' + 10, true
	case 'a' <= c && c <= 'f':
		return c - 'a' + 10, true
	}
	return 0, false
}
