package sum

import (
	"bytes"
	"hash/crc32"
	"math/bits"
	"testing"
)

// mixed returns n bytes without a visible pattern, others for each seed.
func mixed(n int, seed uint32) []byte {
	b := make([]byte, n)
	x := seed*2654435761 + 1
	for i := range b {
		x ^= x << 13
		x ^= x >> 17
		x ^= x << 5
		b[i] = byte(x >> 11)
	}
	return b
}

// byDefinition divides polynomials as the chapter words it, coefficient by coefficient.
func byDefinition(b []byte) uint32 {
	var p []bool // highest power first
	for _, c := range b {
		for i := range 8 {
			p = append(p, c>>i&1 == 1)
		}
	}
	p = append(p, make([]bool, 32)...) // times x^32
	for i := range 32 {                // a string of less than 32 bits: the zeros behind it as well
		p[i] = !p[i]
	}
	powers := []int{32, 26, 23, 22, 16, 12, 11, 10, 8, 7, 5, 4, 2, 1, 0}
	for i := range len(p) - 32 {
		if !p[i] {
			continue
		}
		for _, x := range powers {
			p[i+32-x] = !p[i+32-x]
		}
	}
	var sum uint32
	for i, bit := range p[len(p)-32:] {
		if !bit { // inverted
			sum |= 1 << i
		}
	}
	return sum
}

// wordWith returns the four bytes that have the checksum s: the division run backwards.
func wordWith(s uint32) []byte {
	rest := ^s
	for range 32 {
		if rest>>31 == 1 {
			rest = (rest^0xEDB88320)<<1 | 1
		} else {
			rest <<= 1
		}
	}
	rest = ^rest
	return []byte{byte(rest), byte(rest >> 8), byte(rest >> 16), byte(rest >> 24)}
}

// starts are values to begin from: the edges, each single bit, and some without a pattern.
func starts() []uint32 {
	l := []uint32{0, 0xFFFFFFFF, 0xCBF43926, 0xEDB88320, 0x04C11DB7, 0x7FFFFFFF, 0xDEBB20E3}
	for i := range 32 {
		l = append(l, 1<<i)
	}
	x := uint32(1)
	for range 200 {
		x = x*1664525 + 1013904223
		l = append(l, x)
	}
	return l
}

// P1.1: the examples of the chapter, and known values.
func TestOfExamples(t *testing.T) {
	for _, c := range []struct {
		text string
		want uint32
	}{
		{"", 0},
		{"123456789", 0xCBF43926},
		{"a", 0xE8B7BE43},
		{"abc", 0x352441C2},
		{"\x00", 0xD202EF8D},
		{"\x00\x00\x00\x00", 0x2144DF1C},
		{"\xff", 0xFF000000},
		{"\xff\xff\xff\xff", 0xFFFFFFFF},
		{"The quick brown fox jumps over the lazy dog", 0x414FA339},
	} {
		if got := Of([]byte(c.text)); got != c.want {
			t.Errorf("Of(%q) = %08X, want %08X", c.text, got, c.want)
		}
	}
	if Of(nil) != 0 || Of([]byte{}) != 0 {
		t.Error("Of of nothing is not 0")
	}
}

// P1.1: Of is what the definition says, for short strings and all bytes.
func TestOfIsTheRemainderOfTheDefinition(t *testing.T) {
	for c := range 256 {
		for _, b := range [][]byte{{byte(c)}, {byte(c), 0}, {0, byte(c)}, {0xFF, byte(c), 0xFF}} {
			if got, want := Of(b), byDefinition(b); got != want {
				t.Errorf("Of(%x) = %08X, want %08X", b, got, want)
			}
		}
	}
	for n := range 130 {
		for _, b := range [][]byte{make([]byte, n), bytes.Repeat([]byte{0xFF}, n), mixed(n, uint32(n))} {
			if got, want := Of(b), byDefinition(b); got != want {
				t.Errorf("Of(%x) = %08X, want %08X", b, got, want)
			}
		}
	}
}

// P1.1: Of is right for long strings.
func TestOfLong(t *testing.T) {
	for _, n := range []int{255, 256, 257, 4095, 4096, 4097, 1 << 16, 1<<20 + 3} {
		b := mixed(n, 7)
		if got, want := Of(b), crc32.ChecksumIEEE(b); got != want {
			t.Errorf("Of of %d bytes = %08X, want %08X", n, got, want)
		}
	}
}

// P1.1: a string that is extended piece by piece has the checksum of the whole.
func TestMoreByPieces(t *testing.T) {
	b := mixed(40, 3)
	want := Of(b)
	for i := range len(b) + 1 {
		for j := i; j <= len(b); j++ {
			if got := More(More(Of(b[:i]), b[i:j]), b[j:]); got != want {
				t.Errorf("pieces up to %d and %d: %08X, want %08X", i, j, got, want)
			}
		}
	}
	var s uint32
	for i := range b {
		s = More(s, b[i:i+1])
		if want := Of(b[:i+1]); s != want {
			t.Errorf("byte by byte up to %d: %08X, want %08X", i, s, want)
		}
	}
}

// P1.1: extending by nothing changes no checksum, whatever it is.
func TestMoreByNothing(t *testing.T) {
	for _, s := range starts() {
		if More(s, nil) != s || More(s, []byte{}) != s {
			t.Errorf("More(%08X) by nothing is another checksum", s)
		}
	}
}

// P1.1: every value is the checksum of some string, and More goes on from it.
func TestMoreFromAnyStart(t *testing.T) {
	tails := [][]byte{{0}, {0xFF}, []byte("123456789"), make([]byte, 9), mixed(3, 1), mixed(64, 2)}
	for _, s := range starts() {
		head := wordWith(s)
		if got := Of(head); got != s {
			t.Fatalf("Of(%x) = %08X, want %08X", head, got, s)
		}
		for _, tail := range tails {
			whole := append(bytes.Clone(head), tail...)
			if got, want := More(s, tail), byDefinition(whole); got != want {
				t.Errorf("More(%08X, %x) = %08X, want %08X", s, tail, got, want)
			}
			if got, want := More(s, tail), crc32.Update(s, crc32.IEEETable, tail); got != want {
				t.Errorf("More(%08X, %x) = %08X, want %08X", s, tail, got, want)
			}
		}
	}
}

// P1.1: an argument is not modified, and only what it contains counts, not its capacity.
func TestArgumentsStay(t *testing.T) {
	b := mixed(50, 9)
	was := bytes.Clone(b)
	part := b[10:20]
	if Of(part) != Of(bytes.Clone(part)) || More(5, part) != More(5, bytes.Clone(part)) {
		t.Error("bytes outside of the slice count")
	}
	if !bytes.Equal(b, was) {
		t.Error("the argument was modified")
	}
}

// flipped returns b with the bits of pattern flipped, from bit at on (least significant first).
func flipped(b []byte, at int, pattern uint32) []byte {
	l := bytes.Clone(b)
	for i := range 32 {
		if pattern>>i&1 == 1 {
			l[(at+i)/8] ^= 1 << ((at + i) % 8)
		}
	}
	return l
}

// patterns are differences within a window: single bits, runs of ones, pairs of bits, and others.
func patterns() []uint32 {
	l := starts()[1:]
	for i := range 32 {
		for j := i; j < 32; j++ {
			l = append(l, 1<<i|1<<j, uint32(1<<(j+1)-1<<i))
		}
	}
	return l
}

// P1.2: strings that differ within a window of 32 bits have different checksums.
func TestWindowsDiffer(t *testing.T) {
	all := patterns()
	for _, n := range []int{4, 5, 9, 21} {
		for _, b := range [][]byte{make([]byte, n), bytes.Repeat([]byte{0xFF}, n), mixed(n, 5)} {
			was := Of(b)
			for at := range n*8 - 31 {
				for _, p := range all {
					if p == 0 {
						t.Fatal("a pattern without a difference")
					}
					if Of(flipped(b, at, p)) == was {
						t.Fatalf("%x with %08X flipped from bit %d: both %08X", b, p, at, was)
					}
				}
			}
		}
	}
}

// P1.2: strings that are shorter than a window differ as well.
func TestShortStringsDiffer(t *testing.T) {
	seen := map[uint32]bool{}
	for c := range 1 << 16 {
		s := Of([]byte{byte(c), byte(c >> 8)})
		if seen[s] {
			t.Fatalf("two strings of two bytes with the checksum %08X", s)
		}
		seen[s] = true
	}
	clear(seen)
	for c := range 256 {
		s := Of([]byte{byte(c)})
		if seen[s] {
			t.Fatalf("two strings of one byte with the checksum %08X", s)
		}
		seen[s] = true
	}
}

// P1.2, for all 2^32 differences of a window: a checksum's change is the sum (XOR) of the changes by
// single bits, and these are independent, so only no difference at all gives no change.
func TestWindowsAreIndependent(t *testing.T) {
	for _, n := range []int{4, 7, 16, 200} {
		b := mixed(n, 11)
		was := Of(b)
		for at := range n*8 - 31 {
			var single [32]uint32
			for i := range single {
				single[i] = Of(flipped(b, at, 1<<i)) ^ was
			}
			for _, p := range []uint32{0xFFFFFFFF, 0x12345678, 0x80000001, 0xA5A5A5A5} {
				var change uint32
				for i, c := range single {
					change ^= c * (p >> i & 1)
				}
				if Of(flipped(b, at, p))^was != change {
					t.Fatalf("%d bytes, bit %d: %08X is not the sum of its bits", n, at, p)
				}
			}
			if r := rank(single); r != 32 {
				t.Fatalf("%d bytes, bit %d: rank %d", n, at, r)
			}
		}
	}
}

// rank returns how many of the words are independent over GF(2).
func rank(words [32]uint32) int {
	var leads [32]uint32 // by the highest bit
	n := 0
	for _, w := range words {
		for w != 0 {
			top := bits.Len32(w) - 1
			if leads[top] == 0 {
				leads[top] = w
				n++
				break
			}
			w ^= leads[top]
		}
	}
	return n
}

func BenchmarkOf(b *testing.B) {
	data := mixed(1<<16, 1)
	b.SetBytes(int64(len(data)))
	for b.Loop() {
		Of(data)
	}
}
