package pack

import (
	"math/big"
	"slices"
	"strings"
	"testing"

	"exchequer/api"
)

// mixed returns n bytes without a visible pattern, others for each seed.
func mixed(n int, seed uint32) string {
	b := make([]byte, n)
	x := seed*2654435761 + 1
	for i := range b {
		x ^= x << 13
		x ^= x >> 17
		x ^= x << 5
		b[i] = byte(x >> 11)
	}
	return string(b)
}

// top is the greatest number that has an encoding.
const top = 4611686018427387903

// plain returns the encoding of a number from 0 on, as the chapter's words say it, of any length.
func plain(n int) string {
	b := big.NewInt(int64(n)).Bytes()
	return string(append([]byte{byte(len(b))}, b...))
}

// goodNumbers returns all small numbers, and those around each length.
func goodNumbers() []int {
	var l []int
	for n := range 600 {
		l = append(l, n)
	}
	for i := range 62 {
		for d := -2; d <= 2; d++ {
			if n := 1<<i + d; n >= 0 {
				l = append(l, n)
			}
		}
		l = append(l, 0x0123456789abcdef>>i, 0x3edcba9876543210>>i, 1<<i|1<<(i/2))
	}
	return append(l, top-256, top-2, top-1, top)
}

// badNumbers returns numbers that have no encoding.
func badNumbers() []int {
	l := []int{-1, -2, -255, -256, -257, -1 << 62, -1<<62 - 1, -1 << 63, -1<<63 + 1, top + 1, top + 2, 1<<63 - 1}
	for i := range 63 {
		l = append(l, -1<<i, ^(1 << i))
	}
	return l
}

// written returns what a writer of numbers, strings and flags holds.
func written(t *testing.T, values ...any) string {
	t.Helper()
	s, err := tried(values...)
	if err != api.OK {
		t.Fatalf("%v: %v", values, err)
	}
	return s
}

// tried writes numbers, strings and flags one after another.
func tried(values ...any) (string, api.Errno) {
	var w Writer
	for _, v := range values {
		switch v := v.(type) {
		case int:
			w.Num(v)
		case string:
			w.Text(v)
		case bool:
			w.Flag(v)
		}
	}
	return w.Bytes()
}

// P3.1: the examples of the chapter.
func TestExamples(t *testing.T) {
	for _, c := range []struct {
		value any
		want  string
	}{
		{0, "\x00"}, {5, "\x01\x05"}, {300, "\x02\x01\x2c"}, {"ab", "\x01\x02ab"}, {true, "\x01\x01"}, {false, "\x00"},
	} {
		if got := written(t, c.value); got != c.want {
			t.Errorf("%v is written %x, want %x", c.value, got, c.want)
		}
	}
	r := Read("\x02\x00\x05")
	if n := r.Num(); n != 0 || r.End() != api.ErrForm {
		t.Errorf("02 00 05 is read as %d, %v", n, r.End())
	}
}

// P3.1: what was written is read back.
func TestReadBack(t *testing.T) {
	texts := []string{"", "a", "\x00", strings.Repeat("x", 255), mixed(256, 1), mixed(65535, 2), mixed(65536, 3), "é€"}
	var w Writer
	for i, n := range goodNumbers() {
		w.Num(n)
		w.Text(texts[i%len(texts)][:min(i, len(texts[i%len(texts)]))])
		w.Flag(i%3 == 0)
	}
	s, err := w.Bytes()
	if err != api.OK {
		t.Fatal(err)
	}
	r := Read(s)
	for i, n := range goodNumbers() {
		want := texts[i%len(texts)][:min(i, len(texts[i%len(texts)]))]
		if got := r.Num(); got != n {
			t.Fatalf("number %d is read as %d", n, got)
		}
		if got := r.Text(len(want)); got != want {
			t.Fatalf("string of %d bytes is read as one of %d", len(want), len(got))
		}
		if got := r.Flag(); got != (i%3 == 0) {
			t.Fatalf("flag %d is read as %v", i, got)
		}
	}
	if r.End() != api.OK || r.Left() != 0 {
		t.Errorf("at the end: %v, %d bytes left", r.End(), r.Left())
	}
}

// P3.1: a long string and all bytes that fit are read back.
func TestReadBackLongest(t *testing.T) {
	long := mixed(api.MaxText-4, 7)
	s := written(t, long)
	r := Read(s)
	if got := r.Text(api.MaxText); got != long || r.End() != api.OK {
		t.Errorf("%d of %d bytes, %v", len(got), len(long), r.End())
	}
}

// P3.1: encodings of numbers compare as the numbers do.
func TestOrderOfNumbers(t *testing.T) {
	l := goodNumbers()
	slices.Sort(l)
	l = slices.Compact(l)
	for i, n := range l[1:] {
		if x, y := written(t, l[i]), written(t, n); x >= y {
			t.Errorf("%d and %d compare as %x and %x", l[i], n, x, y)
		}
	}
}

// model reads as the chapter says it, word by word: what is next is an encoding only if it is written so.
type model struct {
	rest   string
	failed bool
}

func (m *model) num(most int) int {
	if m.failed {
		return 0
	}
	if m.rest != "" && int(m.rest[0]) < len(m.rest) && m.rest[0] <= 8 {
		v := new(big.Int).SetBytes([]byte(m.rest[1 : 1+m.rest[0]]))
		if v.Cmp(big.NewInt(top)) <= 0 && v.Cmp(big.NewInt(int64(most))) <= 0 {
			n := int(v.Int64())
			if rest, ok := strings.CutPrefix(m.rest, plain(n)); ok {
				m.rest = rest
				return n
			}
		}
	}
	m.rest, m.failed = "", true
	return 0
}

func (m *model) text(most int) string {
	n := m.num(most)
	if n > len(m.rest) {
		m.rest, m.failed = "", true
	}
	if m.failed {
		return ""
	}
	s := m.rest[:n]
	m.rest = m.rest[n:]
	return s
}

// call is a call of a reader: which one, and its bound.
type call struct {
	kind rune
	most int
}

// asked makes a call of a reader and of the model, tells whether they answer alike, and returns what was read.
func asked(t *testing.T, c call, r *Reader, m *model) any {
	t.Helper()
	var got, want any
	switch c.kind {
	case 'n':
		got, want = r.Num(), m.num(top)
	case 'u':
		got, want = r.Upto(c.most), m.num(c.most)
	case 't':
		got, want = r.Text(c.most), m.text(c.most)
	case 'f':
		got, want = r.Flag(), m.num(1) == 1
	}
	end := api.OK
	if m.failed || m.rest != "" {
		end = api.ErrForm
	}
	if got != want || r.Left() != len(m.rest) || r.End() != end {
		t.Errorf("%c(%d) = %v, want %v; left %d, want %d; end %v, want %v", c.kind, c.most, got, want, r.Left(), len(m.rest), r.End(), end)
	}
	return got
}

// judge reads s by calls: P3.1 holds by the model, and P3.2 by writing again what was read.
func judge(t *testing.T, s string, calls []call) {
	t.Helper()
	r, m := Read(s), &model{rest: s}
	if r.Left() != len(s) {
		t.Errorf("at the beginning %d bytes of %d are left", r.Left(), len(s))
	}
	var values []any
	for _, c := range calls {
		v := asked(t, c, r, m)
		if m.failed {
			continue
		}
		values = append(values, v)
		if again, err := tried(values...); err != api.OK || again != s[:len(s)-r.Left()] {
			t.Errorf("%v is written %x (%v)", values, again, err)
		}
	}
	if t.Failed() {
		t.Fatalf("%x by %v", s, calls)
	}
}

// P3.1, P3.2: every string of up to two bytes, and of more bytes of those that matter, by every kind of call.
func TestShortStrings(t *testing.T) {
	calls := [][]call{
		{{'n', 0}, {'n', 0}}, {{'t', 3}, {'n', 0}}, {{'f', 0}, {'f', 0}, {'f', 0}}, {{'u', 2}, {'t', 2}}, {{'u', 0}, {'u', 255}},
	}
	for n := range 256*256 + 256 + 1 {
		s := ""
		for ; n > 0; n = (n - 1) / 256 {
			s += string([]byte{byte(n - 1)})
		}
		for _, c := range calls {
			judge(t, s, c)
		}
	}
	const some = "\x00\x01\x02\x03\xff"
	for n := range 5 * 5 * 5 * 5 * 5 {
		s := ""
		for range 5 {
			s += some[n%5 : n%5+1]
			n /= 5
		}
		for _, c := range calls {
			judge(t, s, c)
		}
	}
}

// planned makes calls from bytes.
func planned(plan string) []call {
	bounds := []int{-1, 0, 1, 2, 3, 8, 255, 256, 65535, top, top + 1, 1<<63 - 1, -1 << 63}
	var l []call
	for i := range len(plan) {
		l = append(l, call{rune("nutf"[plan[i]%4]), bounds[int(plan[i]/4)%len(bounds)]})
	}
	return l
}

// P3.1, P3.2: mixed calls on mixed bytes, of which many are encodings.
func TestMixedReadings(t *testing.T) {
	pieces := []string{
		"\x00", "\x01\x01", "\x01\x02", "\x01\x00", "\x00\x00", "\x01\x03abc", "\x02\x01\x00", "\x02\x00\x01", "\x09", "\xff", "a", "",
		"\x08\x3f\xff\xff\xff\xff\xff\xff\xff", "\x08\x40\x00\x00\x00\x00\x00\x00\x00", "\x08\x00\x00\x00\x00\x00\x00\x00\x01",
		"\x08\x80\x00\x00\x00\x00\x00\x00\x00", "\x07\xff\xff\xff\xff\xff\xff\xff", "\x01\x08", "\x02\x01\x00" + mixed(256, 9),
	}
	for seed := range uint32(20000) {
		choice, s := mixed(6, seed), ""
		for i := range len(choice) {
			s += pieces[int(choice[i])%len(pieces)]
		}
		judge(t, s, planned(mixed(8, seed+1<<20)))
	}
}

// P3.1, P3.2: any calls on any bytes.
func FuzzReadings(f *testing.F) {
	f.Add("\x00\x01\x05\x01\x02ab\x02\x01\x2c", "\x00\x01\x02\x03")
	f.Fuzz(func(t *testing.T, s, plan string) { judge(t, s, planned(plan)) })
}
