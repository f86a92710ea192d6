package name

import (
	"strings"
	"testing"
)

// right tells whether Right answers something else.
func right(t *testing.T, s string, want bool) {
	t.Helper()
	if got := Right(s); got != want {
		t.Errorf("Right(%+q) = %v", s, got)
	}
}

// counted tells whether Count answers something else.
func counted(t *testing.T, s string, want int) {
	t.Helper()
	if got := Count(s); got != want {
		t.Errorf("Count(%+q) = %d, want %d", s, got, want)
	}
}

// P4.1: the examples of the chapter.
func TestExamplesOfNames(t *testing.T) {
	for _, s := range []string{"root", "zoë_2"} {
		right(t, s, true)
	}
	for _, s := range []string{"", "-a", "A", "a b"} {
		right(t, s, false)
	}
	counted(t, "", 0)
	counted(t, "zoë_2", 5)
}

// P4.1: names of 1, 24 and 25 runes of each width.
func TestLengths(t *testing.T) {
	for _, one := range []string{"a", "z", "0", "9", "_", "é", "¡", "€", "\ufffd", "\U0001f600", "\U0010ffff"} {
		for n := range 60 {
			s := strings.Repeat(one, n)
			right(t, s, n >= 1 && n <= 24)
			counted(t, s, n)
		}
	}
	for n := range 30 {
		s := strings.Repeat("aé€\U0001f600", 8)
		s = string([]rune(s)[:n])
		right(t, s, n >= 1 && n <= 24)
		counted(t, s, n)
	}
	right(t, strings.Repeat("a", 1<<20), false)
	counted(t, strings.Repeat("é", 1<<20), 1<<20)
}

// P4.1: a hyphen that is the first rune, and one that is not.
func TestHyphens(t *testing.T) {
	for _, s := range []string{"-", "--", "-a", "-a-", "-0", "-_", "-é", "-" + strings.Repeat("a", 23)} {
		right(t, s, false)
		counted(t, s, len([]rune(s)))
	}
	for _, s := range []string{"a-", "a--", "a-b", "0-", "_-", "é-", "a-b-c", "a" + strings.Repeat("-", 23)} {
		right(t, s, true)
	}
	right(t, "a"+strings.Repeat("-", 24), false)
	for _, s := range []string{"\u2010a", "\u2212a", "\u00ada"} { // they look like hyphens
		right(t, s, true)
	}
}

// P4.1: which runes a name may have, written out around the edges.
func TestEdgesOfRunes(t *testing.T) {
	for _, s := range []string{"a", "z", "0", "9", "_", "\u00a1", "\u00a2", "\u00ff", "\u2028", "\ud7ff", "\ue000", "\ufeff", "\ufffd", "\uffff", "\U00010000", "\U0010ffff"} {
		right(t, s, true)
		right(t, "a"+s+"b", true)
		counted(t, s, 1)
	}
	for _, s := range []string{
		"`", "{", "/", ":", "A", "Z", "@", "[", "M", " ", "^", ",", ".", "\\", "\"", "~", "!", "\x00", "\n", "\x1f", "\x7f", "\u0080", "\u0085", "\u009f", "\u00a0",
	} {
		for _, x := range []string{s, "a" + s, s + "a", "a" + s + "b", strings.Repeat("a", 23) + s} {
			right(t, x, false)
			counted(t, x, len([]rune(x)))
		}
	}
}

// P4.1: each rune first and later.
func TestEachRuneInNames(t *testing.T) {
	for code := range 0x110000 {
		if !isRune(code) {
			continue
		}
		s := rn(code)
		if Right(s) != wantRight(s) || Right("a"+s) != wantRight("a"+s) || Count(s) != 1 || Count("a"+s+"é") != 3 {
			t.Fatalf("U+%04X: %v, %v, %d, %d", code, Right(s), Right("a"+s), Count(s), Count("a"+s+"é"))
		}
	}
}

// P4.1: what is not valid UTF-8 is no name and has no number of runes, wherever it stands.
func TestNotUTF8(t *testing.T) {
	for _, s := range notUTF8() {
		for _, x := range []string{s, "a" + s, s + "a", "é" + s + "é", "\ufffd" + s, s + "\ufffd", "\ufffd" + s + "\ufffd", s + s, strings.Repeat("a", 23) + s} {
			right(t, x, false)
			counted(t, x, -1)
		}
	}
}

// P4.1: U+FFFD itself is a valid rune; what an iteration finds in its place is not.
func TestReplacementRune(t *testing.T) {
	right(t, "\xef\xbf\xbd", true)
	counted(t, "\xef\xbf\xbd", 1)
	counted(t, strings.Repeat("\xef\xbf\xbd", 24), 24)
	for _, s := range []string{"\xef", "\xef\xbf", "\xbf\xbd", "\xbd", "\xef\xbf\xbd\xef", "\xef\xef\xbf\xbd", "\xef\xbf\xbd\xef\xbf", "\xff\xef\xbf\xbd"} {
		right(t, s, false)
		counted(t, s, -1)
	}
}

// P4.1: a fault behind the first 24 runes, or behind one that no name has, counts.
func TestLateFaults(t *testing.T) {
	counted(t, strings.Repeat("a", 100)+"\xff", -1)
	counted(t, "A\xff", -1)
	counted(t, strings.Repeat("\x00", 50), 50)
	right(t, strings.Repeat("a", 24)+"\xff", false)
}

// P4.1: Count and Right of strings from the bytes that matter.
func TestNamesOfAnyBytes(t *testing.T) {
	for s := range strung("a-\x00\x80\xa0\xa1\xbf\xc2\xc3\xe0\xed\xef\xf0\xf4\xff", 4) {
		if Right(s) != wantRight(s) || Count(s) != wantCount(s) {
			t.Fatalf("%+q: %v, %d; want %v, %d", s, Right(s), Count(s), wantRight(s), wantCount(s))
		}
	}
}
