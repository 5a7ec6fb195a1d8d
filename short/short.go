// Package short has the short texts that the tests of the layers go through.
package short

// Texts calls f with every text of at most n bytes, all of them out of some.
func Texts(some string, n int, f func(s string)) {
	f("")
	if n == 0 {
		return
	}
	for i := range len(some) {
		Texts(some, n-1, func(s string) { f(some[i:i+1] + s) })
	}
}
