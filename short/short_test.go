package short_test

import (
	"slices"
	"testing"

	"exequatur/short"
)

// What the other tests lean on: no short text is left out, and none comes twice.
func TestTexts(t *testing.T) {
	var got []string
	short.Texts("ab", 2, func(s string) { got = append(got, s) })
	slices.Sort(got)
	if want := []string{"", "a", "aa", "ab", "b", "ba", "bb"}; !slices.Equal(got, want) {
		t.Errorf("Texts: %q; want %q", got, want)
	}
}
