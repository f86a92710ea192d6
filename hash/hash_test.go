package hash

import (
	"crypto/hmac"
	"crypto/sha256"
	"encoding/binary"
	"slices"
	"strings"
	"testing"
)

// mixed returns n bytes without a visible pattern, others for each seed.
func mixed(n int, seed uint32) string {
	b := make([]byte, n)
	x := seed*2654435761 + 1
	for i := range b {
		x ^= x << 13
		x ^= x >> 17
		x ^= x << 5
		b[i] = byte(x >> 11)
	}
	return string(b)
}

// digestOf returns the digest of s by Go's library.
func digestOf(s string) string {
	d := sha256.Sum256([]byte(s))
	return string(d[:])
}

// lengths returns all lengths around the edges of the first blocks, and some of long strings.
func lengths() []int {
	var l []int
	for n := range 3*64 + 2 {
		l = append(l, n)
	}
	return append(l, 255, 256, 257, 1000, 1023, 1024, 4095, 4096, 4097, 1<<16, 1<<21+3)
}

// contents returns strings of n bytes: alike bytes, and mixed ones.
func contents(n int) []string {
	return []string{strings.Repeat("\x00", n), strings.Repeat("\xff", n), strings.Repeat("\x80", n), mixed(n, uint32(n))}
}

// P2.1: the examples of the chapter, and the digests that FIPS 180-4's examples name.
func TestSumExamples(t *testing.T) {
	for _, c := range []struct{ s, want string }{
		{"abc", "ba7816bf8f01cfea414140de5dae2223b00361a396177a9cb410ff61f20015ad"},
		{"", "e3b0c44298fc1c149afbf4c8996fb92427ae41e4649b934ca495991b7852b855"},
		{"abcdbcdecdefdefgefghfghighijhijkijkljklmklmnlmnomnopnopq",
			"248d6a61d20638b8e5c026930c3e6039a33ce45964ff2167f6ecedd419db06c1"},
		{"abcdefghbcdefghicdefghijdefghijkefghijklfghijklmghijklmnhijklmnoijklmnopjklmnopqklmnopqrlmnopqrsmnopqrstnopqrstu",
			"cf5b16a778af8380036ce59e7b0492370b249b11e8f07a51afac45037afee9d1"},
		{strings.Repeat("a", 1000000), "cdc76e5c9914fb9281a1c7e284d73e67f1809a48a497200e046d39ccc7112cd0"},
	} {
		if got := Hex(Sum(c.s)); got != c.want {
			t.Errorf("digest of %.20q.. (%d bytes) = %s, want %s", c.s, len(c.s), got, c.want)
		}
	}
}

// P2.1: digests of strings of every length around the edges of a block, and of long ones.
func TestSumOfAllLengths(t *testing.T) {
	for _, n := range lengths() {
		for _, s := range contents(n) {
			got := Sum(s)
			if got != digestOf(s) {
				t.Errorf("digest of %d bytes (%.4x..) = %x, want %x", n, s, got, digestOf(s))
			}
			if len(got) != 32 {
				t.Errorf("digest of %d bytes has %d bytes", n, len(got))
			}
		}
	}
}

// P2.1: each bit of a string counts.
func TestSumOfSingleBits(t *testing.T) {
	seen := map[string]bool{Sum(strings.Repeat("\x00", 119)): true}
	for i := range 119 * 8 {
		b := make([]byte, 119)
		b[i/8] |= 1 << (i % 8)
		got := Sum(string(b))
		if got != digestOf(string(b)) || seen[got] {
			t.Errorf("bit %d: %x", i, got)
		}
		seen[got] = true
	}
}

// joinedParts returns the concatenation of which the digest of parts is the digest.
func joinedParts(l []string) string {
	var b []byte
	for _, p := range l {
		b = binary.BigEndian.AppendUint64(b, uint64(len(p)))
		b = append(b, p...)
	}
	return string(b)
}

// P2.1: the digest of parts, whatever their number and lengths.
func TestParts(t *testing.T) {
	lists := [][]string{
		nil, {}, {""}, {"", ""}, {"", "", ""}, {"a"}, {"", "a"}, {"a", ""}, {"abc"}, {"ab", "c"}, {"a", "bc"},
		{"a", "b", "c"}, {"", "abc"}, {"abc", ""}, {"a", "", "bc"}, {mixed(255, 1)}, {mixed(256, 1)},
		{mixed(257, 1), mixed(65536, 2)}, {mixed(1<<20, 3), "", mixed(3, 4)},
	}
	for n := range 130 {
		lists = append(lists, []string{mixed(n, 5)}, []string{mixed(n, 5), mixed(130-n, 6)})
		lists = append(lists, slices.Repeat([]string{"x"}, n+2))
	}
	seen := map[string]string{}
	for _, l := range lists {
		whole := joinedParts(l)
		got := Parts(l...)
		if got != digestOf(whole) {
			t.Errorf("Parts of %d parts (%d bytes) = %x, want %x", len(l), len(whole), got, digestOf(whole))
		}
		if was, ok := seen[got]; ok && was != whole {
			t.Errorf("different parts with the digest %x", got)
		}
		seen[got] = whole
	}
}

// P2.1: no parts have the digest of the empty string, and one empty part has another one.
func TestPartsOfNothing(t *testing.T) {
	if Parts() != Sum("") || Parts(nil...) != Sum("") || Parts([]string{}...) != Sum("") {
		t.Error("no parts")
	}
	if Parts("") != Sum("\x00\x00\x00\x00\x00\x00\x00\x00") {
		t.Error("an empty part")
	}
	if Parts("abc") != Sum("\x00\x00\x00\x00\x00\x00\x00\x03abc") {
		t.Error("the length does not precede the part in 8 bytes")
	}
}

// P2.1: parts whose concatenations are alike, but not their lengths, have different digests.
func TestPartsKeepTheirLengths(t *testing.T) {
	lists := [][]string{
		{"abcd"}, {"a", "bcd"}, {"ab", "cd"}, {"abc", "d"}, {"", "abcd"}, {"abcd", ""}, {"a", "b", "cd"},
		{"a", "bc", "d"}, {"ab", "c", "d"}, {"a", "b", "c", "d"}, {"", "", "abcd"}, {"ab", "", "cd"},
	}
	seen := map[string]bool{Sum("abcd"): true}
	for _, l := range lists {
		if seen[Parts(l...)] {
			t.Errorf("%q has the digest of another sequence", l)
		}
		seen[Parts(l...)] = true
	}
}

// P2.1: the parts that are handed in stay as they were.
func TestPartsKeepsItsArguments(t *testing.T) {
	l := []string{"a", "", "bc", mixed(100, 1)}
	was := slices.Clone(l)
	first := Parts(l[:2]...)
	if first != Parts("a", "") || Parts(l[:2]...) != first || !slices.Equal(l, was) {
		t.Error("the arguments count or change beyond the slice")
	}
}

// P2.1: the example of the chapter, and the MACs that RFC 4231 names.
func TestMacExamples(t *testing.T) {
	for _, c := range []struct{ key, s, want string }{
		{"Jefe", "what do ya want for nothing?", "5bdcc146bf60754e6a042426089575c75a003f089d2739839dec58b964ec3843"},
		{strings.Repeat("\x0b", 20), "Hi There", "b0344c61d8db38535ca8afceaf0bf12b881dc200c9833da726e9376c2e32cff7"},
		{strings.Repeat("\xaa", 20), strings.Repeat("\xdd", 50),
			"773ea91e36800e46854db8ebd09181a72959098b3ef8c122d9635514ced565fe"},
		{strings.Repeat("\xaa", 131), "Test Using Larger Than Block-Size Key - Hash Key First",
			"60e431591ee0b67f0d8a26aacbf5b77f8e0bc6213728c5140546040f0ee37f54"},
		{"", "", "b613679a0814d9ec772f95d778c35fc5ff1697c493715653c6c712144292c5ad"},
	} {
		if got := Hex(Mac(c.key, c.s)); got != c.want {
			t.Errorf("MAC of %q = %s, want %s", c.s, got, c.want)
		}
	}
}

// P2.1: MACs under keys shorter than a block, as long as one, and longer.
func TestMacOfAllLengths(t *testing.T) {
	for _, k := range []int{0, 1, 31, 32, 33, 62, 63, 64, 65, 66, 127, 128, 129, 1000, 1 << 16} {
		for _, key := range contents(k) {
			for _, n := range []int{0, 1, 55, 56, 63, 64, 65, 119, 120, 128, 5000} {
				s := mixed(n, 9)
				h := hmac.New(sha256.New, []byte(key))
				h.Write([]byte(s))
				if got, want := Mac(key, s), string(h.Sum(nil)); got != want {
					t.Errorf("MAC of %d bytes under %d (%.4x..) = %x, want %x", n, k, key, got, want)
				}
			}
		}
	}
}

// P2.1: a key is padded and, only if it is longer than a block, replaced by its digest.
func TestMacKeys(t *testing.T) {
	full, longer := mixed(64, 1), mixed(65, 1)
	if Mac("key", "s") != Mac("key\x00\x00", "s") {
		t.Error("a key is not padded with zero bytes")
	}
	if Mac(longer, "s") != Mac(Sum(longer), "s") {
		t.Error("a key of 65 bytes is not replaced by its digest")
	}
	if Mac(full, "s") == Mac(Sum(full), "s") {
		t.Error("a key of 64 bytes is replaced by its digest")
	}
	if Mac("a", "b") == Mac("b", "a") || Mac("ab", "") == Mac("a", "b") {
		t.Error("key and string are alike")
	}
}
