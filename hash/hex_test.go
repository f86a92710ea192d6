package hash

import (
	"encoding/hex"
	"strings"
	"testing"
)

// allBytes returns each byte once, in order.
func allBytes() string {
	var b [256]byte
	for i := range b {
		b[i] = byte(i)
	}
	return string(b[:])
}

// P2.1: Hex of each byte, and of strings.
func TestHex(t *testing.T) {
	for _, s := range []string{"", "\x00", "\x00\x00", "abc", "é", "\xff\xfe", allBytes(), mixed(1000, 1)} {
		if got, want := Hex(s), hex.EncodeToString([]byte(s)); got != want {
			t.Errorf("Hex(%x) = %s", s, got)
		}
	}
	for c := range 256 {
		want := string([]byte{"0123456789abcdef"[c/16], "0123456789abcdef"[c%16]})
		if got := Hex(string([]byte{byte(c)})); got != want {
			t.Errorf("Hex of byte %d = %q, want %q", c, got, want)
		}
	}
}

// P2.2: Unhex(Hex(s)) is s.
func TestUnhexOfHex(t *testing.T) {
	for n := range 70 {
		for _, s := range append(contents(n), allBytes()) {
			if got, ok := Unhex(Hex(s)); !ok || got != s {
				t.Errorf("Unhex(Hex(%x)) = %x, %v", s, got, ok)
			}
		}
	}
	for c := range 1 << 16 {
		s := string([]byte{byte(c >> 8), byte(c)})
		if got, ok := Unhex(Hex(s)); !ok || got != s {
			t.Fatalf("Unhex(Hex(%x)) = %x, %v", s, got, ok)
		}
	}
}

// P2.1: Unhex of any two bytes: only two of the digits that Hex writes are a byte.
func TestUnhexOfAnyTwoBytes(t *testing.T) {
	const digits = "0123456789abcdef"
	for i := range 256 {
		for j := range 256 {
			s := string([]byte{byte(i), byte(j)})
			high, low := strings.IndexByte(digits, byte(i)), strings.IndexByte(digits, byte(j))
			want, wantOk := "", high >= 0 && low >= 0
			if wantOk {
				want = string([]byte{byte(16*high + low)})
			}
			if got, ok := Unhex(s); got != want || ok != wantOk {
				t.Errorf("Unhex(%q) = %x, %v, want %x, %v", s, got, ok, want, wantOk)
			}
		}
	}
}

// P2.1: what Hex does not write has no string, wherever the fault is.
func TestUnhexOfOtherThanDigits(t *testing.T) {
	good := Hex(mixed(40, 2))
	for _, s := range []string{"0", "a", "abc", "00000", good[1:], good + "0", "0x00", " 00", "00 ", "00\n", "+1", "-1",
		"AB", "aB", "Ab", "FF", "é", "\uff11\uff12", "g0", "0g", "/0", "0/", ":0", "0:", "`0", "0`", "\x00\x00", "zz"} {
		if got, ok := Unhex(s); got != "" || ok {
			t.Errorf("Unhex(%q) = %x, %v", s, got, ok)
		}
	}
	for i := range len(good) {
		for _, c := range "gGAF/:`@ \x00\x7f" {
			s := good[:i] + string(c) + good[i+1:]
			if got, ok := Unhex(s); got != "" || ok {
				t.Errorf("Unhex(%q) = %x, %v", s, got, ok)
			}
		}
		if i%2 == 1 {
			if got, ok := Unhex(good[:i]); got != "" || ok {
				t.Errorf("Unhex of %d digits = %x, %v", i, got, ok)
			}
		}
	}
}

// P2.1: the empty string is the Hex of itself.
func TestUnhexOfNothing(t *testing.T) {
	if got, ok := Unhex(""); got != "" || !ok {
		t.Errorf("Unhex of nothing = %x, %v", got, ok)
	}
}

// P2.1 and P2.2: whatever string Unhex finds is the one whose Hex was asked for.
func FuzzUnhex(f *testing.F) {
	f.Add("00ff")
	f.Add("0F")
	f.Fuzz(func(t *testing.T, s string) {
		got, ok := Unhex(s)
		if ok && Hex(got) != s || !ok && got != "" {
			t.Errorf("Unhex(%q) = %x, %v", s, got, ok)
		}
		if back, ok := Unhex(Hex(s)); !ok || back != s {
			t.Errorf("Unhex(Hex(%x)) = %x, %v", s, back, ok)
		}
	})
}
