package pack

import (
	"strings"
	"testing"

	"exchequer/api"
)

// stands tells where a reader stands if it is elsewhere.
func stands(t *testing.T, r *Reader, left int, end api.Errno) {
	t.Helper()
	if r.Left() != left || r.End() != end {
		t.Errorf("%d bytes left, %v; want %d, %v", r.Left(), r.End(), left, end)
	}
}

// over tells what a reader does still read if there was a fault.
func over(t *testing.T, r *Reader) {
	t.Helper()
	stands(t, r, 0, api.ErrForm)
	for range 2 {
		if n, u, s, f := r.Num(), r.Upto(top), r.Text(api.MaxText), r.Flag(); n != 0 || u != 0 || s != "" || f {
			t.Errorf("behind a fault: %d, %d, %q, %v", n, u, s, f)
		}
		stands(t, r, 0, api.ErrForm)
	}
}

// P3.1: a reader at the beginning of no bytes is at the end, and there is nothing to read.
func TestReadNothing(t *testing.T) {
	stands(t, Read(""), 0, api.OK)
	stands(t, &Reader{}, 0, api.OK)
	for _, ask := range []func(r *Reader) bool{
		func(r *Reader) bool { return r.Num() == 0 },
		func(r *Reader) bool { return r.Upto(9) == 0 },
		func(r *Reader) bool { return r.Text(9) == "" },
		func(r *Reader) bool { return !r.Flag() },
	} {
		r := Read("")
		if !ask(r) {
			t.Error("something is read from nothing")
		}
		over(t, r)
	}
}

// P3.1: Left and End at each time.
func TestLeftAndEnd(t *testing.T) {
	r := Read("\x00\x01\x05\x01\x02ab\x01\x01\x02\x01\x2c")
	stands(t, r, 12, api.ErrForm)
	stands(t, r, 12, api.ErrForm)
	if n := r.Num(); n != 0 {
		t.Error(n)
	}
	stands(t, r, 11, api.ErrForm)
	if n := r.Upto(5); n != 5 {
		t.Error(n)
	}
	stands(t, r, 9, api.ErrForm)
	if s := r.Text(2); s != "ab" {
		t.Errorf("%q", s)
	}
	stands(t, r, 5, api.ErrForm)
	if !r.Flag() {
		t.Error("flag")
	}
	stands(t, r, 3, api.ErrForm)
	if n := r.Num(); n != 300 {
		t.Error(n)
	}
	stands(t, r, 0, api.OK)
	stands(t, r, 0, api.OK)
	if r.Num() != 0 {
		t.Error("a number behind the end")
	}
	over(t, r)
}

// P3.1: bytes that are no encoding of a number.
func TestNoNumbers(t *testing.T) {
	for _, s := range []string{
		"\x01", "\x02", "\x02\x01", "\x08", "\x08\x01\x01\x01\x01\x01\x01\x01", // incomplete
		"\x01\x00", "\x02\x00\x05", "\x02\x00\x00", "\x08\x00\xff\xff\xff\xff\xff\xff\xff", // leading zero bytes
		"\x08\x40\x00\x00\x00\x00\x00\x00\x00", "\x08\x7f\xff\xff\xff\xff\xff\xff\xff", // too great
		"\x08\x80\x00\x00\x00\x00\x00\x00\x00", "\x08\x80\x00\x00\x00\x00\x00\x00\x01", "\x08\xff\xff\xff\xff\xff\xff\xff\xff",
		"\x09\x01\x01\x01\x01\x01\x01\x01\x01\x01", "\x09\x00\x01\x01\x01\x01\x01\x01\x01\x01", // too many bytes
		"\x0a" + strings.Repeat("\x01", 10), "\x80" + strings.Repeat("\x01", 128), "\xff" + strings.Repeat("\x01", 255), "\xff",
	} {
		for _, behind := range []string{"", "\x00"} {
			if behind != "" && len(s) <= int(s[0]) {
				continue // what is incomplete would be another thing
			}
			r := Read(s + behind)
			if n := r.Num(); n != 0 {
				t.Errorf("%x is read as %d", s, n)
			}
			over(t, r)
			r = Read(s + behind)
			if n := r.Upto(1<<63 - 1); n != 0 {
				t.Errorf("%x is read as %d", s, n)
			}
			over(t, r)
		}
	}
}

// P3.1: encodings that are cut anywhere are faults, and those with something behind are not at their end.
func TestCutAndExtended(t *testing.T) {
	for _, n := range goodNumbers() {
		s := plain(n)
		for i := range len(s) {
			r := Read(s[:i])
			if got := r.Num(); got != 0 {
				t.Errorf("%x, cut to %d bytes, is read as %d", s, i, got)
			}
			over(t, r)
		}
		r := Read(s + "\x00")
		if got := r.Num(); got != n {
			t.Errorf("%d is read as %d", n, got)
		}
		stands(t, r, 1, api.ErrForm)
	}
	for _, n := range []int{0, 1, 2, 255, 256, 300} {
		text := mixed(n, 4)
		s := plain(n) + text
		for i := range len(s) {
			r := Read(s[:i])
			if got := r.Text(top); got != "" {
				t.Errorf("a string of %d bytes, cut to %d, is read as %q", n, i, got)
			}
			over(t, r)
		}
		r := Read(s + "a")
		if got := r.Text(n); got != text {
			t.Errorf("a string of %d bytes is read as %q", n, got)
		}
		stands(t, r, 1, api.ErrForm)
	}
}

// P3.1: a bound that is met, passed, 0 or below 0.
func TestUpto(t *testing.T) {
	for _, n := range goodNumbers() {
		for _, most := range []int{n, n + 1, top, top + 1, 1<<63 - 1} {
			r := Read(plain(n))
			if got := r.Upto(most); got != n {
				t.Errorf("%d is read as %d up to %d", n, got, most)
			}
			stands(t, r, 0, api.OK)
		}
		for _, most := range []int{n - 1, n / 2, 0, -1, -n, -1 << 63} {
			if most >= n {
				continue
			}
			r := Read(plain(n) + "\x01\x01")
			if got := r.Upto(most); got != 0 {
				t.Errorf("%d is read as %d up to %d", n, got, most)
			}
			over(t, r)
		}
	}
}

// P3.1: a bound of a string's length that is met, passed, 0 or below 0.
func TestTextBound(t *testing.T) {
	for _, n := range []int{0, 1, 2, 255, 256, 65536, 1 << 21} {
		text := mixed(n, 5)
		for _, most := range []int{n, n + 1, api.MaxText + 1, top, top + 1, 1<<63 - 1} {
			r := Read(plain(n) + text)
			if got := r.Text(most); got != text {
				t.Errorf("a string of %d bytes is read as one of %d", n, len(got))
			}
			stands(t, r, 0, api.OK)
		}
		for _, most := range []int{n - 1, n / 2, 0, -1, -n, -1 << 63} {
			if most >= n {
				continue
			}
			r := Read(plain(n) + text + "\x01\x01")
			if got := r.Text(most); got != "" {
				t.Errorf("%q is read up to %d bytes", got, most)
			}
			over(t, r)
		}
	}
}

// P3.1: strings whose length is no number, or greater than what is there.
func TestNoTexts(t *testing.T) {
	for _, s := range []string{
		"\x01", "\x01\x00", "\x01\x01", "\x01\x02a", "\x02\x00\x01a", "\x02\x01\x00a", "\x09a", "\xffa",
		"\x08\x3f\xff\xff\xff\xff\xff\xff\xffabc", "\x08\x40\x00\x00\x00\x00\x00\x00\x00abc", "\x08\xff\xff\xff\xff\xff\xff\xff\xffabc",
		"\x08\x80\x00\x00\x00\x00\x00\x00\x01abc",
	} {
		for _, most := range []int{0, 1, 300, top, 1<<63 - 1, -1} {
			r := Read(s)
			if got := r.Text(most); got != "" {
				t.Errorf("%x is read as %q", s, got)
			}
			over(t, r)
		}
	}
}

// P3.1: flags, and numbers that are none.
func TestFlags(t *testing.T) {
	for _, behind := range []string{"", "\x00", "\x01\x01", "\xff"} {
		r := Read("\x01\x01" + behind)
		if !r.Flag() || r.Left() != len(behind) {
			t.Error("true is read as false")
		}
		r = Read("\x00" + behind)
		if r.Flag() || r.Left() != len(behind) {
			t.Error("false is read as true")
		}
		if behind == "" {
			stands(t, r, 0, api.OK)
		} else {
			stands(t, r, len(behind), api.ErrForm)
		}
	}
	for _, s := range []string{
		"\x01\x02", "\x01\x03", "\x01\xff", "\x02\x01\x00", "\x02\x01\x01", "\x01\x00", "\x02\x00\x01", "\x01", "\x02", "\x09", "\xff",
		"\x08\x3f\xff\xff\xff\xff\xff\xff\xff", "\x08\xff\xff\xff\xff\xff\xff\xff\xff",
	} {
		r := Read(s)
		if r.Flag() {
			t.Errorf("%x is read as true", s)
		}
		over(t, r)
	}
}

// P3.1: a fault in the midst, by each call.
func TestFaultInTheMidst(t *testing.T) {
	const s = "\x01\x05\x01\x07\x01\x02ab\x01\x01"
	for _, ask := range []func(r *Reader) bool{
		func(r *Reader) bool { return r.Upto(6) == 0 },
		func(r *Reader) bool { return r.Text(6) == "" },
		func(r *Reader) bool { return r.Text(7) == "" },
		func(r *Reader) bool { return !r.Flag() },
	} {
		r := Read(s)
		if r.Num() != 5 {
			t.Fatal("the number ahead of the fault")
		}
		if !ask(r) {
			t.Error("something is read with a fault")
		}
		over(t, r)
	}
}

// P3.1: readers of one string know nothing of each other.
func TestTwoReaders(t *testing.T) {
	s := "\x01\x05\x01\x02ab"
	a, b := Read(s), Read(s)
	if a.Num() != 5 || a.Flag() {
		t.Error("the first reader")
	}
	over(t, a)
	stands(t, b, 6, api.ErrForm)
	if b.Num() != 5 || b.Text(2) != "ab" {
		t.Error("the second reader")
	}
	stands(t, b, 0, api.OK)
}

// P3.1: a nil reader.
func TestNilReader(t *testing.T) {
	var r *Reader
	over(t, r)
}
