package name

import (
	"strings"
	"unicode/utf8"
)

// digits are the hexadecimal digits in the order of their values.
const digits = "0123456789abcdef"

// Plain returns the printable form of s.
func Plain(s string) string {
	var b strings.Builder
	for i, r := range s {
		switch {
		case broken(s[i:], r):
			escape(&b, s[i:i+1])
		case shown(r):
			b.WriteRune(r)
		default:
			escape(&b, s[i:i+utf8.RuneLen(r)])
		}
	}
	return b.String()
}

// Back returns the string whose printable form is s, and whether there is one.
func Back(s string) (string, bool) {
	t, ok := unescaped(s)
	// Bytes may have been escaped that together are a rune that represents itself.
	if !ok || Plain(t) != s {
		return "", false
	}
	return t, true
}

// unescaped returns the bytes that the escapes and the other runes of s represent, and whether s consists of such.
func unescaped(s string) (string, bool) {
	var b strings.Builder
	code, missing := 0, 0 // of the escape that has begun: its digits so far, and how many are to come
	for i, r := range s {
		switch {
		case missing > 0:
			d := strings.IndexRune(digits, r)
			if d < 0 {
				return "", false
			}
			code, missing = code<<4|d, missing-1
			if missing == 0 {
				b.WriteByte(byte(code))
			}
		case r == '\\':
			code, missing = 0, 2
		case !shown(r) || broken(s[i:], r):
			return "", false
		default:
			b.WriteRune(r)
		}
	}
	return b.String(), missing == 0
}

// shown returns whether the rune r represents itself.
func shown(r rune) bool {
	return ' ' <= r && r <= '~' && r != '\\' || r >= firstHigh
}

// escape appends a backslash and two digits for each byte of s.
func escape(b *strings.Builder, s string) {
	for i := range len(s) {
		b.WriteByte('\\')
		b.WriteByte(digits[s[i]>>4])
		b.WriteByte(digits[s[i]&15])
	}
}
