package span

import (
	"strings"
	"testing"

	"exchequer/api"
)

// right tells whether Right answers something else.
func right(t *testing.T, s api.Span, want bool) {
	t.Helper()
	if got := Right(s); got != want {
		t.Errorf("Right(%+q) = %v", s, got)
	}
}

// has tells whether Has answers something else for some keys.
func has(t *testing.T, s api.Span, want bool, keys ...string) {
	t.Helper()
	for _, k := range keys {
		if got := Has(s, k); got != want {
			t.Errorf("Has(%+q, %+q) = %v", s, k, got)
		}
	}
}

// inside tells whether Inside answers something else.
func inside(t *testing.T, a, b api.Span, want bool) {
	t.Helper()
	if got := Inside(a, b); got != want {
		t.Errorf("Inside(%+q, %+q) = %v", a, b, got)
	}
}

// P5.1: the length of From and of To.
func TestLengthsOfEnds(t *testing.T) {
	for n := range 70 {
		k := strings.Repeat("k", n)
		right(t, sp(k, ""), n <= 65)
		right(t, sp(k, "l"), n <= 65)
		right(t, sp(k, k+"\x00"), n <= 64)
		right(t, sp("", k), n <= 65)
		right(t, sp("a", k), n <= 65) // 0: to the end
	}
	a, b := strings.Repeat("a", 66), strings.Repeat("b", 66)
	right(t, sp(a[:64], b[:64]), true)
	right(t, sp(a[:65], b[:65]), true)
	right(t, sp(a[:66], b[:65]), false)
	right(t, sp(a[:65], b[:66]), false)
	right(t, sp(a[:66], b[:66]), false)
	right(t, sp(a[:66], ""), false)
	right(t, sp("", b[:66]), false)
	right(t, sp(strings.Repeat("é", 32), ""), true) // bytes, not runes
	right(t, sp(strings.Repeat("é", 33), ""), false)
	right(t, sp(strings.Repeat("a", 1<<20), strings.Repeat("b", 1<<20)), false)
}

// P5.1: the order of From and To.
func TestOrderOfEnds(t *testing.T) {
	for _, s := range []api.Span{
		sp("", ""), sp("", "a"), sp("", "\x00"), sp("a", ""), sp("\xff", ""), sp("a", "b"), sp("a", "a\x00"), sp("\x00", "\x00\x00"), sp("a", "aa"), sp("Z", "a"), sp("a\xff", "b"), sp("z", "é"), sp("\x7f", "\x80"),
	} {
		right(t, s, true)
	}
	for _, s := range []api.Span{
		sp("a", "a"), sp("\x00", "\x00"), sp("b", "a"), sp("a\x00", "a"), sp("\x00\x00", "\x00"), sp("aa", "a"), sp("a", "Z"), sp("b", "a\xff"), sp("\xff", "\xfe"), sp("\x80", "\x7f"), sp(strings.Repeat("a", 65), strings.Repeat("a", 65)), sp(strings.Repeat("a", 65), strings.Repeat("a", 64)),
	} {
		right(t, s, false)
	}
}

// P5.1: keys at From and To, just below and just above each of them.
func TestKeysAtEnds(t *testing.T) {
	s := sp("b", "d")
	has(t, s, true, "b", "b\x00", "ba", "b\xff", "c", "c\xff", "c\xff\xff", "c"+strings.Repeat("\xff", 100))
	has(t, s, false, "", "a", "a\xff", "a\xff\xff", "B", "d", "d\x00", "da", "e", "\xff")
	s = sp("b", "")
	has(t, s, true, "b", "b\x00", "z", "\xff", "\xff\xff", strings.Repeat("\xff", 100))
	has(t, s, false, "", "\x00", "a", "a\xff", "a"+strings.Repeat("\xff", 100))
	s = sp("", "b")
	has(t, s, true, "", "\x00", "a", "a\xff", "a"+strings.Repeat("\xff", 100))
	has(t, s, false, "b", "b\x00", "c", "\xff")
	has(t, sp("", ""), true, "", "\x00", "a", "\xff", strings.Repeat("\xff", 1000))
	has(t, sp("a", "a\x00"), true, "a")
	has(t, sp("a", "a\x00"), false, "", "Z", "`\xff", "a\x00", "a\x00\x00", "a\x01", "aa", "b")
	has(t, sp("a\xff", "b"), true, "a\xff", "a\xff\x00", "a\xff\xff")
	has(t, sp("a\xff", "b"), false, "a", "a\xfe", "a\xfe\xff", "b", "b\x00")
	has(t, sp("\x7f", "\x81"), true, "\x7f", "\x80", "\x80\xff")
	has(t, sp("\x7f", "\x81"), false, "~", "\x81", "\xff")
}

// P5.1: Has does not ask whether a span is valid.
func TestHasOfNotValid(t *testing.T) {
	a, b := strings.Repeat("a", 66), strings.Repeat("b", 66)
	has(t, sp(a, b), true, a, a+"a", "b", b[:65], "ab")
	has(t, sp(a, b), false, "", "a", a[:65], b, b+"b", "c")
	has(t, sp(a, ""), true, a, "b", "\xff")
	has(t, sp(a, ""), false, a[:65], "")
	has(t, sp("", b), true, "", a, b[:65])
	has(t, sp("", b), false, b, "c")
	for _, s := range []api.Span{sp("a", "a"), sp("b", "a"), sp("a\x00", "a"), sp(b, a), sp(a, a), sp("\xff", "\x00")} {
		has(t, s, false, "", "\x00", "a", "a\x00", "a\x01", "aa", "b", "c", a, b, "\xff", "\xff\xff")
	}
}

// P5.1: Has of all ends and keys of some.
func TestHasOfAll(t *testing.T) {
	ends := []string{"", "\x00", "\x00\x00", "a", "a\x00", "a\xff", "b", "\xfe", "\xff", "\xff\x00", "\xff\xff", strings.Repeat("a", 66)}
	for _, s := range pairs(ends...) {
		right(t, s, wantRight(s))
		for _, c := range ends {
			for _, k := range near(c) {
				has(t, s, wantHas(s, k), k)
			}
		}
	}
}

// P5.1: the span of one key.
func TestKey(t *testing.T) {
	for _, k := range []string{"", "\x00", "a", "a\x00", "a\xff", "\xff", "\xff\xff", "é", "-", strings.Repeat("a", 63), strings.Repeat("a", 64), strings.Repeat("\xff", 64), strings.Repeat("\x00", 64), strings.Repeat("a", 65), strings.Repeat("a", 66)} {
		s := Key(k)
		if s.From != k || s.To != k+"\x00" {
			t.Errorf("Key(%+q) = %+q", k, s)
		}
		right(t, s, len(k) <= 64)
		has(t, s, true, k)
		for _, other := range near(k) {
			has(t, s, other == k, other)
		}
	}
	if s := Key(""); s != sp("", "\x00") {
		t.Errorf("Key(\"\") = %+q", s)
	}
}

// P5.1: the span of the keys that begin with something.
func TestUnder(t *testing.T) {
	a64, ff := strings.Repeat("a", 64), strings.Repeat("\xff", 66)
	for p, to := range map[string]string{
		"": "", "a": "b", "ab": "ac", "a\x00": "a\x01", "\x00": "\x01", "\x00\x00": "\x00\x01", "az": "a{", "a\x7f": "a\x80", "a\xfe": "a\xff", "\xfe": "\xff", "\xfe\xfe": "\xfe\xff",
		"a\xff": "b", "a\xff\xff": "b", "a\xff\xff\xff": "b", "ab\xff": "ac", "\x00\xff": "\x01", "\xfe\xff": "\xff", "\xfe\xff\xff": "\xff", "a\xff\x00": "a\xff\x01", "\xff\xfe": "\xff\xff", "\xff\xfe\xff": "\xff\xff", "\xffa\xff": "\xffb", "\x7f\xff": "\x80",
		"\xff": "", "\xff\xff": "", "\xff\xff\xff": "", ff[:64]: "", ff[:65]: "", ff: "",
		"é": "\xc3\xaa", "\xc3\xbf": "\xc3\xc0", "a\xfe\xff": "a\xff", "a\x80\xff": "a\x81", "\xef\xbf\xbd": "\xef\xbf\xbe", "a\xc3\xff": "a\xc4",
		a64: a64[:63] + "b", a64 + "a": a64 + "b", a64 + "aa": a64 + "ab", a64 + "\xff": a64[:63] + "b", a64 + "\xff\xff": a64[:63] + "b", "a" + ff: "b",
	} {
		s := Under(p)
		if s.From != p || s.To != to {
			t.Errorf("Under(%+q) = %+q, want To %+q", p, s, to)
		}
		right(t, s, len(p) <= 65)
		for _, end := range []string{p, to} {
			for _, k := range near(end) {
				has(t, s, strings.HasPrefix(k, p), k)
			}
		}
		has(t, s, true, p, p+"\x00", p+"a", p+"\xff", p+"\xff\xff\xff", p+ff)
		has(t, s, p == "", "")
	}
}

// P5.1: Under of each byte, and of each byte ahead of and behind one.
func TestUnderEachByte(t *testing.T) {
	for c := range 256 {
		for _, frame := range [][2]string{{"", ""}, {"a", ""}, {"", "a"}, {"", "\xff"}, {"\xff", ""}, {"a", "\xff"}, {"\xff", "\xff"}, {"a\xff", "\xff\xff"}} {
			p := frame[0] + string([]byte{byte(c)}) + frame[1]
			s := Under(p)
			if s.From != p || !Right(s) {
				t.Fatalf("Under(%+q) = %+q", p, s)
			}
			for _, k := range append(near(p), near(s.To)...) {
				has(t, s, strings.HasPrefix(k, p), k)
			}
		}
	}
}

// P5.1: spans within others.
func TestInside(t *testing.T) {
	outer := sp("b", "f")
	for _, a := range []api.Span{sp("b", "f"), sp("b", "c"), sp("e", "f"), sp("c", "d"), sp("b", "b\x00"), sp("e\xff", "f"), sp("b\x00", "f"), sp("b", "e\xff\xff")} {
		inside(t, a, outer, true)
		inside(t, a, sp("", ""), true)
		inside(t, a, sp("", "f"), true)
		inside(t, a, sp("b", ""), true)
		inside(t, outer, a, a == outer)
	}
	for _, a := range []api.Span{sp("a", "f"), sp("a\xff", "f"), sp("b", "f\x00"), sp("b", "g"), sp("a", "g"), sp("b", ""), sp("c", ""), sp("f", ""), sp("", "f"), sp("", "b"), sp("", ""), sp("f", "g"), sp("a", "b"), sp("a", "c"), sp("e", "g"), sp("g", "h")} {
		inside(t, a, outer, false)
	}
	inside(t, sp("", ""), sp("", ""), true)
	inside(t, sp("b", ""), sp("b", ""), true)
	inside(t, sp("c", ""), sp("b", ""), true)
	inside(t, sp("b", ""), sp("c", ""), false)
	inside(t, sp("a\xff\xff", ""), sp("b", ""), false)
	inside(t, sp("", "b"), sp("", "b"), true)
	inside(t, sp("", "b"), sp("", "b\x00"), true)
	inside(t, sp("", "b\x00"), sp("", "b"), false)
	inside(t, sp("", ""), sp("", "\xff"), false)
	inside(t, sp("", ""), sp("\x00", ""), false)
}

// P5.1: a span that is not valid is inside nothing, and nothing is inside it.
func TestInsideOfNotValid(t *testing.T) {
	a66 := strings.Repeat("a", 66)
	for _, bad := range []api.Span{sp("a", "a"), sp("b", "a"), sp("c\x00", "c"), sp(a66, ""), sp("", a66), sp(a66, "b"), sp(a66, a66)} {
		inside(t, bad, bad, false)
		for _, good := range []api.Span{sp("", ""), sp("a", "b"), sp("a", ""), sp("", "b"), Key("a"), Key("")} {
			inside(t, bad, good, false)
			inside(t, good, bad, false)
		}
	}
}

// P5.1: Inside of all pairs of spans between some ends, against the keys of both.
func TestInsideOfAll(t *testing.T) {
	l := pairs("", "\x00", "a", "a\x00", "a\xff", "b", "\xff", strings.Repeat("a", 66))
	for _, a := range l {
		for _, b := range l {
			want := wantRight(a) && wantRight(b)
			for _, k := range cuts([]api.Span{a, b}) {
				want = want && (!wantHas(a, k) || wantHas(b, k))
			}
			inside(t, a, b, want)
		}
	}
}
