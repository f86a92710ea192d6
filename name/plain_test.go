package name

import (
	"iter"
	"strings"
	"testing"
	"unicode/utf8"
)

// strung produces all strings of up to most of the bytes of some.
func strung(some string, most int) iter.Seq[string] {
	return func(yield func(string) bool) {
		level := []string{""}
		for n := range most + 1 {
			var next []string
			for _, s := range level {
				if !yield(s) {
					return
				}
				for i := 0; n < most && i < len(some); i++ {
					next = append(next, s+some[i:i+1])
				}
			}
			level = next
		}
	}
}

// shownAs tells whether s has another printable form, whether it is not valid UTF-8, or does not lead back.
func shownAs(t *testing.T, s, want string) {
	t.Helper()
	got := Plain(s)
	if got != want {
		t.Errorf("Plain(%+q) = %+q, want %+q", s, got, want)
	}
	if !utf8.ValidString(got) || Count(got) < 0 {
		t.Errorf("Plain(%+q) = %+q is not valid UTF-8", s, got)
	}
	if x, ok := Back(got); !ok || x != s {
		t.Errorf("Back(%+q) = %+q, %v, want %+q", got, x, ok, s)
	}
}

// noBack tells whether Back finds something.
func noBack(t *testing.T, s string) {
	t.Helper()
	if got, ok := Back(s); ok || got != "" {
		t.Errorf("Back(%+q) = %+q, %v", s, got, ok)
	}
}

// P4.1: the examples of the chapter.
func TestExamplesOfForms(t *testing.T) {
	shownAs(t, "\né", "\\0aé")
	shownAs(t, "\xc3", "\\c3")
	noBack(t, "\\41")
	shownAs(t, "", "")
}

// P4.1, P4.2: each single byte.
func TestSingleBytes(t *testing.T) {
	for c := range 256 {
		s := string([]byte{byte(c)})
		if c >= 0x20 && c <= 0x7e && c != '\\' {
			shownAs(t, s, s)
		} else {
			shownAs(t, s, escaped(s))
		}
	}
	shownAs(t, "\x00", "\\00")
	shownAs(t, "\x1f", "\\1f")
	shownAs(t, "\\", "\\5c")
	shownAs(t, "\x7f", "\\7f")
	shownAs(t, "\xff", "\\ff")
	shownAs(t, "\xab", "\\ab")
}

// P4.1, P4.2: the runes around the edges, written out.
func TestFormsOfEdges(t *testing.T) {
	for _, s := range []string{"a", "z", "0", "9", "A", "Z", " ", "~", "!", "/", "-", "_", "[", "]", "\u00a1", "\u00a2", "\u00ad", "\u2028", "\ud7ff", "\ue000", "\ufeff", "\ufffd", "\uffff", "\U0010ffff"} {
		shownAs(t, s, s)
		shownAs(t, "\x00"+s+"\x00", "\\00"+s+"\\00")
	}
	for s, want := range map[string]string{
		"\u0080": "\\c2\\80", "\u0085": "\\c2\\85", "\u009f": "\\c2\\9f", "\u00a0": "\\c2\\a0", "\x7f": "\\7f", "\\": "\\5c", "\r\n\t": "\\0d\\0a\\09",
	} {
		shownAs(t, s, want)
		shownAs(t, "a"+s+"é", "a"+want+"é")
	}
}

// P4.1, P4.2: each rune, and each code in more bytes than it needs, or that no rune has.
func TestFormsOfEachCode(t *testing.T) {
	tops := []int{0, 0x80, 0x800, 0x10000, 0x200000}
	for size := 1; size <= 4; size++ {
		for code := range tops[size] {
			s := coded(code, size)
			want := escaped(s)
			if isRune(code) && shortest(code) == size && itself(code) {
				want = s
			}
			if got := Plain(s); got != want {
				t.Fatalf("Plain(%+q) = %+q, want %+q", s, got, want)
			}
			if x, ok := Back(want); !ok || x != s {
				t.Fatalf("Back(%+q) = %+q, %v", want, x, ok)
			}
			if want == s {
				noBack(t, escaped(s))
			}
		}
	}
}

// P4.1, P4.2: bytes that are not valid UTF-8, alone and beside what is.
func TestFormsOfNotUTF8(t *testing.T) {
	for _, s := range notUTF8() {
		for _, x := range []string{s, "a" + s, s + "a", "é" + s + "€", s + "\ufffd", "\ufffd" + s, "\\" + s + "\\", s + s} {
			shownAs(t, x, wantPlain(x))
		}
	}
	shownAs(t, "\xc3é", "\\c3é")
	shownAs(t, "é\xa9", "é\\a9")
	shownAs(t, "\xe2\x82€", "\\e2\\82€")
	shownAs(t, "\xed\xa0\x80", "\\ed\\a0\\80")
	shownAs(t, "\xf4\x90\x80\x80", "\\f4\\90\\80\\80")
	shownAs(t, "\xc1\x81", "\\c1\\81")
	shownAs(t, "\xef\xbf\ufffd\xbd", "\\ef\\bf\ufffd\\bd")
	shownAs(t, "\xc3(\xa9", "\\c3(\\a9")
}

// P4.1: backslashes in what is shown are escaped, whatever follows them.
func TestBackslashes(t *testing.T) {
	shownAs(t, "\\\\", "\\5c\\5c")
	shownAs(t, "\\5c", "\\5c5c")
	shownAs(t, "\\00", "\\5c00")
	shownAs(t, "\\c3", "\\5cc3")
	shownAs(t, "a\\b", "a\\5cb")
}

// P4.1: strings that are no printable form.
func TestNoForms(t *testing.T) {
	for _, s := range []string{
		"\\", "a\\", "\\0", "\\c", "a\\c", "\\0a\\", "\\0a\\c", "\\\\", "\\5", // it ends too early
		"\\0A", "\\C3", "\\c3\\A9", "\\aF", "\\Fa", "\\FF", // capitals
		"\\0g", "\\g0", "\\ 0", "\\0 ", "\\+1", "\\-1", "\\x0", "\\0x", "\\_1", "\\1_", "\\/0", "\\:0", "\\0`", "\\é0", "\\0é", "\\\ufffd0", "\\0\ufffd", "\\\uff10\uff10", // no digits
		"\\0\\0a", "\\\\0a", "\\c\\33", // an escape in the midst of one
		"\\41", "\\20", "\\7e", "\\21", "\\61", "\\7a", "\\30", "\\39", "\\2d", "\\5f", "\\5b", "\\5d", "a\\41", "\\41\\00", "\\00\\41", // of runes that represent themselves
		"\\c3\\a9", "\\c2\\a1", "\\e2\\82\\ac", "\\ef\\bf\\bd", "\\f0\\9f\\98\\80", "\\f4\\8f\\bf\\bf", // together such a rune
		"\\c3\\c3\\a9", "\\c3\\a9\\a9", "a\\c3\\a9b", "\\e2\\82\\e2\\82\\ac", "é\\c3\\a9", "\\00\\c2\\a1\\00",
		"\n", "\x00", "\x1f", "\x7f", "a\nb", "\\0a\n", "\\\x00\x00", "\\0\x00", "\u0080", "\u0085", "\u00a0", "a\u00a0", // runes that are escaped
		"\x80", "\xff", "\xc3", "a\xc3", "\xc3a", "\xe2\x82", "\xed\xa0\x80", "\xf4\x90\x80\x80", "\xc1\x81", "\\c3\xa9", "\xc3\\a9", "\\0\xff", "\\\xff0", "\\\xff\xff", "é\xa9", "\xef\xbf", // not valid UTF-8
	} {
		noBack(t, s)
	}
}

// P4.1: escapes that together are no rune that represents itself.
func TestForms(t *testing.T) {
	for s, want := range map[string]string{
		"\\c3": "\xc3", "\\a9": "\xa9", "\\a9\\c3": "\xa9\xc3", "\\c3a\\a9": "\xc3a\xa9", "\\c3é": "\xc3é", "\\c2\\a0": "\u00a0", "\\c2\\80": "\u0080",
		"\\c1\\81": "\xc1\x81", "\\ed\\a0\\80": "\xed\xa0\x80", "\\f4\\90\\80\\80": "\xf4\x90\x80\x80", "\\e2\\82": "\xe2\x82", "\\5c": "\\", "\\5c41": "\\41",
		"\\00": "\x00", "\\7f": "\x7f", "\\ff": "\xff", "\\e2\\82€": "\xe2\x82€", "\ufffd": "\ufffd", "\\ef\\bf": "\xef\xbf", "": "", " ": " ",
	} {
		if got, ok := Back(s); !ok || got != want {
			t.Errorf("Back(%+q) = %+q, %v, want %+q", s, got, ok, want)
		}
	}
}

// P4.1, P4.2: all strings of the bytes that matter have forms of their own, which lead back; and no other strings do.
func TestFormsOfAnyBytes(t *testing.T) {
	seen := map[string]string{}
	for s := range strung("a\\\x00\x7f\x80\xa0\xa1\xbf\xc2\xc3\xe0\xed\xef\xf0\xf4\xff", 4) {
		want := wantPlain(s)
		got := Plain(s)
		if got != want || !utf8.ValidString(got) {
			t.Fatalf("Plain(%+q) = %+q, want %+q", s, got, want)
		}
		if other, ok := seen[got]; ok {
			t.Fatalf("%+q and %+q have the form %+q", s, other, got)
		}
		seen[got] = s
		if x, ok := Back(got); !ok || x != s {
			t.Fatalf("Back(%+q) = %+q, %v, want %+q", got, x, ok, s)
		}
	}
}

// P4.1: of all pairs of bytes, Back finds those whose form it is, and nothing else.
func TestBackOfEscapedPairs(t *testing.T) {
	for c := range 1 << 16 {
		s := string([]byte{byte(c >> 8), byte(c)})
		shownAs(t, s, wantPlain(s))
		want, wantOk := "", wantPlain(s) == escaped(s)
		if wantOk {
			want = s
		}
		if got, ok := Back(escaped(s)); got != want || ok != wantOk {
			t.Fatalf("Back(%s) = %+q, %v", escaped(s), got, ok)
		}
		want, wantOk = "", wantPlain(s) == s
		if wantOk {
			want = s
		}
		if got, ok := Back(s); got != want || ok != wantOk {
			t.Fatalf("Back(%+q) = %+q, %v", s, got, ok)
		}
	}
}

// P4.1, P4.2: Back of strings from pieces of forms and of what is none.
func TestBackOfPieces(t *testing.T) {
	pieces := []string{"\\", "0", "5c", "c3", "a9", "C3", "\\c3", "\\a9", "\\c2", "\\a0", "\\e2", "\\82", "\\ac", "\\ef", "\\bf", "\\bd", "\\f0", "\\9f", "\\98", "\\80", "é", "€", "\ufffd", "\xff", "\xc3", "\n", "a", "\u00a0"}
	for plan := range strung("\x00\x01\x02\x03\x04\x05\x06\x07\x08\x09\x0a\x0b\x0c\x0d\x0e\x0f\x10\x11\x12\x13\x14\x15\x16\x17\x18\x19\x1a\x1b", 3) {
		s := ""
		for i := range len(plan) {
			s += pieces[plan[i]]
		}
		judgeBack(t, s)
	}
	for seed := range uint32(100000) {
		plan, s := mixed(7, seed), ""
		for i := range len(plan) {
			s += pieces[int(plan[i])%len(pieces)]
		}
		judgeBack(t, s)
	}
}

// judgeBack holds Back against the words of the chapter, and against Plain.
func judgeBack(t *testing.T, s string) {
	t.Helper()
	want, wantOk := wantBack(s)
	got, ok := Back(s)
	if got != want || ok != wantOk {
		t.Fatalf("Back(%+q) = %+q, %v, want %+q, %v", s, got, ok, want, wantOk)
	}
	if ok && Plain(got) != s {
		t.Fatalf("Back(%+q) = %+q, whose form is %+q", s, got, Plain(got))
	}
}

// P4.2: a name is its own form.
func TestFormsOfNames(t *testing.T) {
	for _, s := range []string{"root", "zoë_2", "a-", "_", "0", strings.Repeat("z", 24), strings.Repeat("\U0010ffff", 24), "\ufffd", "\u00a1\u00ad\u2028"} {
		right(t, s, true)
		shownAs(t, s, s)
	}
	for code := range 0x110000 {
		if s := "a" + rn(code); isRune(code) && Right(s) && Plain(s) != s {
			t.Fatalf("Plain(%+q) = %+q", s, Plain(s))
		}
	}
	for s := range strung("a0-_A \\\xc2\xc3\xa0\xa1\xef\xbf\xbd", 4) {
		if Right(s) && Plain(s) != s {
			t.Fatalf("Plain(%+q) = %+q", s, Plain(s))
		}
	}
}

// P4.1, P4.2: long strings.
func TestLongForms(t *testing.T) {
	for _, s := range []string{strings.Repeat("é", 1<<16), strings.Repeat("\xff", 1<<16), strings.Repeat("\xc3\\é\x00", 1<<14), mixed(1<<18, 5)} {
		if got, want := Plain(s), wantPlain(s); got != want {
			t.Fatalf("the form of %d bytes has %d bytes, want %d", len(s), len(got), len(want))
		}
		if got, ok := Back(Plain(s)); !ok || got != s {
			t.Fatalf("the form of %d bytes leads back to %d bytes, %v", len(s), len(got), ok)
		}
		noBack(t, Plain(s)+"\\")
		noBack(t, Plain(s)+"\\7a")
	}
}

// P4.1, P4.2: any string.
func FuzzForms(f *testing.F) {
	f.Add("\\c3\xc3é\n")
	f.Add("zoë_2")
	f.Fuzz(func(t *testing.T, s string) {
		right(t, s, wantRight(s))
		counted(t, s, wantCount(s))
		shownAs(t, s, wantPlain(s))
		judgeBack(t, s)
	})
}
