package hash

import (
	"crypto/sha256"
	"strings"
	"testing"
)

// P2.1: a stream without content, however it came to be.
func TestStreamWithoutContent(t *testing.T) {
	empty := digestOf("")
	s := New()
	if s == nil {
		t.Fatal("New answers nil")
	}
	if s.Sum() != empty {
		t.Error("a new stream has a content")
	}
	s.Write("")
	if s.Sum() != empty || New().Sum() != empty {
		t.Error("the empty string is a content")
	}
	var zero Stream
	if zero.Sum() != empty {
		t.Error("the zero Stream has a content")
	}
	zero.Write("abc")
	if zero.Sum() != digestOf("abc") {
		t.Error("the zero Stream can't be written to")
	}
}

// P2.1: on a nil stream, Write does nothing and Sum returns "".
func TestNilStream(t *testing.T) {
	var s *Stream
	if s.Sum() != "" {
		t.Error("a nil stream has a digest")
	}
	s.Write("")
	s.Write("abc")
	s.Write(mixed(1000, 1))
	if s.Sum() != "" {
		t.Error("a nil stream has a digest after it is written to")
	}
}

// P2.1 and P2.2: content that is cut in three at any two places.
func TestStreamInThreePieces(t *testing.T) {
	const n = 2*64 + 5
	c := mixed(n, 2)
	want := digestOf(c)
	for i := range n + 1 {
		for j := i; j <= n; j++ {
			s := New()
			s.Write(c[:i])
			s.Write(c[i:j])
			s.Write(c[j:])
			if s.Sum() != want || Sum(c) != want {
				t.Fatalf("cut at %d and %d: %x, want %x", i, j, s.Sum(), want)
			}
		}
	}
}

// P2.2: pieces of equal lengths, empty ones between them.
func TestStreamInEqualPieces(t *testing.T) {
	c := mixed(1000, 3)
	for _, size := range []int{1, 2, 3, 7, 31, 32, 55, 56, 57, 63, 64, 65, 119, 120, 127, 128, 129, 500, 999, 1000} {
		s := New()
		for rest := c; rest != ""; {
			k := min(size, len(rest))
			s.Write(rest[:k])
			s.Write("")
			rest = rest[k:]
		}
		if s.Sum() != digestOf(c) || s.Sum() != Sum(c) {
			t.Errorf("pieces of %d bytes: %x", size, s.Sum())
		}
	}
}

// P2.1 and P2.2: a stream that is asked for its digest in between, more than once, and written on.
func TestStreamAskedInBetween(t *testing.T) {
	for _, step := range []int{1, 3, 8, 55, 56, 63, 64, 65, 120} {
		c := mixed(3*step+200, uint32(step))
		s := New()
		for at := 0; at < len(c); at += step {
			end := min(at+step, len(c))
			s.Write(c[at:end])
			want := digestOf(c[:end])
			if a, b := s.Sum(), s.Sum(); a != want || b != want {
				t.Fatalf("steps of %d, %d bytes: %x, then %x, want %x", step, end, a, b, want)
			}
		}
	}
}

// P2.1: streams do not share their contents, nor does a copy of one.
func TestStreamsAreApart(t *testing.T) {
	a, b := New(), New()
	a.Write(mixed(70, 1))
	b.Write("b")
	c := *a
	c.Write("c")
	a.Write("a")
	for _, x := range []struct {
		s    *Stream
		want string
	}{{a, mixed(70, 1) + "a"}, {b, "b"}, {&c, mixed(70, 1) + "c"}} {
		if x.s.Sum() != digestOf(x.want) {
			t.Errorf("stream of %x: %x", x.want, x.s.Sum())
		}
	}
}

// P2.2: a long content, written in pieces of growing length.
func TestStreamLong(t *testing.T) {
	c := mixed(1<<20+77, 4)
	s := New()
	for at, k := 0, 0; at < len(c); k++ {
		end := min(at+k, len(c))
		s.Write(c[at:end])
		at = end
	}
	if s.Sum() != digestOf(c) || s.Sum() != Sum(c) {
		t.Errorf("long content: %x", s.Sum())
	}
}

// P2.2: a content whose number of bits takes more than 32 bits.
func TestStreamVeryLong(t *testing.T) {
	if testing.Short() {
		t.Skip("half a gigabyte")
	}
	piece := mixed(1<<20, 5)
	bytes := []byte(piece)
	s, want := New(), sha256.New()
	for range 1<<9 + 1 {
		s.Write(piece)
		want.Write(bytes)
	}
	if got := s.Sum(); got != string(want.Sum(nil)) {
		t.Errorf("very long content: %x", got)
	}
}

// P2.2: whatever the pieces: the fuzzer cuts the content.
func FuzzStream(f *testing.F) {
	f.Add("abc", uint(1), uint(2))
	f.Add(strings.Repeat("x", 200), uint(64), uint(128))
	f.Add("", uint(0), uint(0))
	f.Fuzz(func(t *testing.T, c string, i, j uint) {
		x := int(i % uint(len(c)+1))
		y := x + int(j%uint(len(c)-x+1))
		s := New()
		for _, piece := range []string{c[:x], c[x:y], c[y:]} {
			s.Write(piece)
			s.Sum()
		}
		if s.Sum() != digestOf(c) || Sum(c) != digestOf(c) {
			t.Errorf("%x cut at %d and %d: %x", c, x, y, s.Sum())
		}
	})
}

func BenchmarkSum(b *testing.B) {
	s := mixed(1<<16, 1)
	b.SetBytes(int64(len(s)))
	for b.Loop() {
		Sum(s)
	}
}
