package name

import (
	"strconv"
	"strings"
)

// coded returns the encoding of a code in size bytes, whether or not a rune has it and whether or not it is the shortest.
func coded(code, size int) string {
	lead := []int{0, 0x00, 0xc0, 0xe0, 0xf0}[size]
	b := make([]byte, size)
	for i := size - 1; i > 0; i-- {
		b[i] = byte(0x80 | code&0x3f)
		code >>= 6
	}
	b[0] = byte(lead | code)
	return string(b)
}

// shortest returns in how many bytes a code is encoded.
func shortest(code int) int {
	switch {
	case code < 0x80:
		return 1
	case code < 0x800:
		return 2
	case code < 0x10000:
		return 3
	}
	return 4
}

// isRune returns whether a code is that of a rune.
func isRune(code int) bool {
	return code >= 0 && code <= 0x10ffff && (code < 0xd800 || code > 0xdfff)
}

// rn returns the encoding of a rune.
func rn(code int) string { return coded(code, shortest(code)) }

// head returns the rune that begins s and its size, 0 if none does: by the words of the chapter, without the library.
func head(s string) (code, size int) {
	for size = 1; size <= 4 && size <= len(s); size++ {
		code = int(s[0]) & []int{0, 0x7f, 0x1f, 0x0f, 0x07}[size]
		for _, c := range []byte(s[1:size]) {
			code = code<<6 | int(c)&0x3f
		}
		if isRune(code) && shortest(code) == size && coded(code, size) == s[:size] {
			return code, size
		}
	}
	return 0, 0
}

// wantCount is what Count answers.
func wantCount(s string) int {
	n := 0
	for s != "" {
		_, size := head(s)
		if size == 0 {
			return -1
		}
		s = s[size:]
		n++
	}
	return n
}

// wantRight is what Right answers.
func wantRight(s string) bool {
	n := wantCount(s)
	if n < 1 || n > 24 || s[0] == '-' {
		return false
	}
	for s != "" {
		code, size := head(s)
		if !strings.ContainsRune("abcdefghijklmnopqrstuvwxyz0123456789-_", rune(code)) && code < 0xa1 {
			return false
		}
		s = s[size:]
	}
	return true
}

// itself returns whether a rune represents itself.
func itself(code int) bool {
	return code >= 0x20 && code <= 0x7e && code != 0x5c || code >= 0xa1
}

// escaped returns a backslash and two digits for each byte.
func escaped(s string) string {
	out := ""
	for i := range len(s) {
		out += "\\" + strconv.FormatInt(int64(s[i])+256, 16)[1:]
	}
	return out
}

// wantPlain is what Plain answers.
func wantPlain(s string) string {
	var out []byte
	for s != "" {
		code, size := head(s)
		if size > 0 && itself(code) {
			out = append(out, s[:size]...)
		} else {
			size = max(size, 1)
			out = append(out, escaped(s[:size])...)
		}
		s = s[size:]
	}
	return string(out)
}

// wantBack is what Back answers: undone in the only way there could be, and done again.
func wantBack(s string) (string, bool) {
	var out []byte
	for rest := s; rest != ""; {
		if rest[0] != '\\' {
			out = append(out, rest[0])
			rest = rest[1:]
			continue
		}
		if len(rest) < 3 {
			return "", false
		}
		n, err := strconv.ParseUint(rest[1:3], 16, 8)
		if err != nil {
			return "", false
		}
		out = append(out, byte(n))
		rest = rest[3:]
	}
	if wantPlain(string(out)) != s {
		return "", false
	}
	return string(out), true
}

// mixed returns n bytes without a visible pattern, others for each seed.
func mixed(n int, seed uint32) string {
	b := make([]byte, n)
	x := seed*2654435761 + 1
	for i := range b {
		x ^= x << 13
		x ^= x >> 17
		x ^= x << 5
		b[i] = byte(x >> 11)
	}
	return string(b)
}

// edges returns the runes around the edges of what a name may have, of what represents itself, and of what is a rune.
func edges() []int {
	l := []int{0, 1, 9, 10, 13, 0x1f}
	for code := 0x20; code <= 0xff; code++ { // with them all of ASCII that can be seen
		l = append(l, code)
	}
	return append(l, 0x7ff, 0x800, 0xfff, 0x1000, 0x2028, 0xd7ff, 0xe000, 0xfeff, 0xfffc, 0xfffd, 0xfffe, 0xffff, 0x10000, 0x1f600, 0x10fffe, 0x10ffff)
}

// notUTF8 returns strings that are not valid UTF-8, beside others either.
func notUTF8() []string {
	l := []string{
		"\x80", "\xbf", "\xc0", "\xc1", "\xf5", "\xfe", "\xff", // bytes that begin no rune
		"\xc0\x80", "\xc1\xbf", "\xc0\xaf", "\xe0\x80\x80", "\xe0\x9f\xbf", "\xf0\x80\x80\x80", "\xf0\x8f\xbf\xbf", "\xf0\x80\x81\x81", // not the shortest
		"\xe0\x81\x81", "\xc1\x81", "\xe0\x82\xa1", "\xf0\x80\x82\xa1", "\xf0\x8f\xbf\xbd", // the same, of a, of U+00A1, of U+FFFD
		"\xed\xa0\x80", "\xed\xaf\xbf", "\xed\xb0\x80", "\xed\xbf\xbf", "\xed\xa0\xbd\xed\xb8\x80", // from U+D800 to U+DFFF
		"\xf4\x90\x80\x80", "\xf4\xbf\xbf\xbf", "\xf7\xbf\xbf\xbf", "\xf5\x80\x80\x80", // above U+10FFFF
		"\xf8\x88\x80\x80\x80", "\xfc\x84\x80\x80\x80\x80", // five and six bytes
		"\xc3(", "\xe2\x82(", "\xe2(\xac", "\xf0\x9f\x98(", "\xf0(\x98\x80", // another byte in the midst
		"\xc3\xc3\xa9", "\xe2\x82\xe2\x82\xac", "\xa9\xc3", // one rune breaks off where another begins
	}
	for c := 0x80; c <= 0xff; c++ {
		l = append(l, string([]byte{byte(c)}))
	}
	for _, code := range edges() { // runes that are cut anywhere
		s := rn(code)
		for i := 1; i < len(s); i++ {
			l = append(l, s[:i], s[i:])
		}
	}
	return l
}
