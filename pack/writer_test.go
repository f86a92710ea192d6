package pack

import (
	"math"
	"slices"
	"strings"
	"testing"

	"exchequer/api"
)

// filled returns a writer of exactly n bytes.
func filled(t *testing.T, n int) *Writer {
	t.Helper()
	w := &Writer{}
	for range n {
		w.Num(0)
	}
	if s, err := w.Bytes(); err != api.OK || len(s) != n {
		t.Fatalf("%d of %d bytes, %v", len(s), n, err)
	}
	return w
}

// holds tells what a writer holds if it is something else.
func holds(t *testing.T, w *Writer, want string, fault api.Errno) {
	t.Helper()
	if got, err := w.Bytes(); got != want || err != fault {
		t.Errorf("%d bytes (%.20x..), %v; want %d bytes (%.20x..), %v", len(got), got, err, len(want), want, fault)
	}
}

// P3.1: the zero writer is empty.
func TestZeroWriter(t *testing.T) {
	var w Writer
	holds(t, &w, "", api.OK)
	holds(t, &w, "", api.OK)
	w.Flag(true)
	holds(t, &w, "\x01\x01", api.OK)
}

// P3.1: numbers around each length.
func TestNumbers(t *testing.T) {
	var all Writer
	want := ""
	for _, n := range goodNumbers() {
		var w Writer
		w.Num(n)
		holds(t, &w, plain(n), api.OK)
		all.Num(n)
		want += plain(n)
	}
	holds(t, &all, want, api.OK)
	for _, c := range []struct {
		n    int
		want string
	}{
		{1, "\x01\x01"}, {255, "\x01\xff"}, {256, "\x02\x01\x00"}, {65535, "\x02\xff\xff"}, {65536, "\x03\x01\x00\x00"},
		{1<<56 - 1, "\x07\xff\xff\xff\xff\xff\xff\xff"}, {1 << 56, "\x08\x01\x00\x00\x00\x00\x00\x00\x00"},
		{top, "\x08\x3f\xff\xff\xff\xff\xff\xff\xff"},
	} {
		if got := written(t, c.n); got != c.want {
			t.Errorf("%d is written %x, want %x", c.n, got, c.want)
		}
	}
}

// P3.1: strings around each length of their lengths, and of any bytes.
func TestTexts(t *testing.T) {
	var all Writer
	want := ""
	for _, n := range []int{0, 1, 2, 8, 9, 127, 128, 254, 255, 256, 257, 65535, 65536, 65537} {
		for _, s := range []string{strings.Repeat("\x00", n), strings.Repeat("\xff", n), mixed(n, 3)} {
			var w Writer
			w.Text(s)
			holds(t, &w, plain(n)+s, api.OK)
			all.Text(s)
			want += plain(n) + s
		}
	}
	holds(t, &all, want, api.OK)
}

// P3.1: numbers that have no encoding are a fault, and nothing is appended behind them.
func TestBadNumbers(t *testing.T) {
	for _, n := range badNumbers() {
		for _, before := range []string{"", "ab", mixed(300, 1)} {
			var w Writer
			w.Text(before)
			w.Num(n)
			holds(t, &w, "", api.ErrArg)
			w.Num(1)
			w.Text("a")
			w.Flag(true)
			w.Text(strings.Repeat("x", api.MaxText))
			holds(t, &w, "", api.ErrArg)
		}
	}
}

// P3.1: a value is a fault only if there would be more than MaxText bytes with it.
func TestMaxText(t *testing.T) {
	for _, c := range []struct {
		before int
		value  any
		fits   bool
	}{
		{api.MaxText - 1, 0, true}, {api.MaxText, 0, false},
		{api.MaxText - 1, false, true}, {api.MaxText, false, false},
		{api.MaxText - 1, "", true}, {api.MaxText, "", false},
		{api.MaxText - 2, 255, true}, {api.MaxText - 1, 1, false},
		{api.MaxText - 2, true, true}, {api.MaxText - 1, true, false},
		{api.MaxText - 3, "a", true}, {api.MaxText - 2, "a", false},
		{api.MaxText - 3, 256, true}, {api.MaxText - 2, 256, false},
		{api.MaxText - 9, top, true}, {api.MaxText - 8, top, false},
		{api.MaxText - 257, strings.Repeat("x", 255), true}, {api.MaxText - 256, strings.Repeat("x", 255), false},
		{api.MaxText - 259, strings.Repeat("x", 256), true}, {api.MaxText - 258, strings.Repeat("x", 256), false},
		{0, mixed(api.MaxText-4, 1), true}, {0, mixed(api.MaxText-3, 1), false}, {1, mixed(api.MaxText-4, 1), false},
		{0, mixed(api.MaxText, 1), false}, {0, mixed(api.MaxText+1, 1), false}, {7, strings.Repeat("x", 1<<25), false},
	} {
		w := filled(t, c.before)
		want, fault := "", api.ErrLong
		switch v := c.value.(type) {
		case int:
			w.Num(v)
			want = plain(v)
		case bool:
			w.Flag(v)
			want = map[bool]string{true: "\x01\x01", false: "\x00"}[v]
		case string:
			w.Text(v)
			want = plain(len(v)) + v
		}
		if c.fits {
			want, fault = strings.Repeat("\x00", c.before)+want, api.OK
		} else {
			want = ""
		}
		holds(t, w, want, fault)
	}
}

// P3.1: the first fault is remembered, whatever faults would follow.
func TestFirstFault(t *testing.T) {
	var w Writer
	w.Num(7)
	w.Text(strings.Repeat("x", api.MaxText))
	holds(t, &w, "", api.ErrLong)
	w.Num(-1)
	w.Num(1)
	w.Text("")
	w.Flag(false)
	holds(t, &w, "", api.ErrLong)
	v := filled(t, api.MaxText)
	v.Num(math.MinInt)
	holds(t, v, "", api.ErrArg)
	v.Num(0)
	holds(t, v, "", api.ErrArg)
}

// P3.1: the bytes can be asked for at any time, and stay what they were.
func TestBytesInBetween(t *testing.T) {
	var w Writer
	var kept, wanted []string
	want := ""
	for i := range 200 {
		w.Num(i)
		want += plain(i)
		holds(t, &w, want, api.OK)
		s, _ := w.Bytes()
		kept, wanted = append(kept, s), append(wanted, want)
	}
	if !slices.Equal(kept, wanted) {
		t.Error("what was asked for before has changed")
	}
}

// P3.1: writers know nothing of each other.
func TestTwoWriters(t *testing.T) {
	var a, b Writer
	for i := range 50 {
		a.Num(i)
		b.Text("b")
	}
	a.Num(-1)
	holds(t, &a, "", api.ErrArg)
	holds(t, &b, strings.Repeat("\x01\x01b", 50), api.OK)
}

// P3.1: on a nil writer nothing is appended.
func TestNilWriter(t *testing.T) {
	var w *Writer
	for range 2 {
		holds(t, w, "", api.ErrArg)
		w.Num(1)
		w.Num(-1)
		w.Text("a")
		w.Text(strings.Repeat("x", api.MaxText+1))
		w.Flag(true)
		w.Flag(false)
	}
	holds(t, w, "", api.ErrArg)
}
