package shot

import (
	"slices"
	"strings"
	"testing"

	"exchequer/api"
)

// strange returns names of files, such as a disk takes them, that aren't those of snapshots.
func strange() []string {
	return []string{
		"s", "s3", "s000000000003", "s00000000000003", "s000000000000a", "sa000000000003", "s00000a0000003", "s-000000000003", "s00000000000-3", "s_000000000003", "s000000_000003",
		"0000000000003", "00000000000003", "0000000000003s", "t0000000000003", "r0000000000003", "w0000000000003", "w000000000003", "ss000000000003", "s0000000000003s", "s0000000000003-",
		"s00000000000é", "sé00000000003", "é000000000003", "s00000000000٣", "s000000000000٣", "s٠٠٠٠٠٠٠٠٠٠٠٠٣", "ｓ0000000000003", "ｓ00000000003", "s０00000000003", "s000000000000３",
		"s00000000000\uFFFD", "s000000000000²", "xs0000000000003", "s0000000000003x", "s999999999999", "s99999999999999", "s000000000000000000003", "s0x00000000003", "s000000000003e",
	}
}

// refused returns names that aren't those of snapshots' files, and that a disk doesn't take.
func refused() []string {
	return []string{
		"", "S0000000000003", "s+000000000003", "s 000000000003", "s000000000003 ", " s0000000000003", "s0000000000003 ", "s0000000000003\n", "s.000000000003", "-0000000000003", "s00000000000/3",
		"s000000000000:", "s000000000000\x00", "s000000000000\xff", "\xff0000000000003", "s\xc300000000003", "s000000000003E", "s\x00000000000003",
	}
}

// P8.1: which names have the form of a snapshot's.
func TestForm(t *testing.T) {
	for _, n := range slices.Concat(strange(), refused()) {
		if named(n) {
			t.Errorf("%q is taken for the name of a snapshot's file", n)
		}
		if s, ok := snapIn(n, written(three)); ok || s != (api.Snap{}) {
			t.Errorf("%q: %s, %v", n, told(s), ok)
		}
	}
	for _, n := range []string{"s0000000000000", "s0000000000003", "s1234567890123", "s1099511627776", "s1099511627777", "s9999999999999"} {
		if !named(n) {
			t.Errorf("%q isn't taken for the name of a snapshot's file", n)
		}
	}
	d := newDisk(t, api.MaxDisk)
	for _, n := range refused() {
		is(t, "Append to "+n, d.Append(n, written(three)), api.ErrName)
	}
}

// P8.1: files with other names are left alone by all three, whatever they have.
func TestOtherFiles(t *testing.T) {
	for _, b := range []string{"", "?", written(three), written(eight)} {
		var others []string
		for _, n := range strange() {
			others = append(others, n, b)
		}
		w := newTwins(t, api.MaxDisk, durable(others...)...)
		w.setFuse(t, 0)
		loadsNone(t, w.got, api.OK)
		w.clean(t)
		w.setFuse(t, -1)
		holds(t, w.got, others...)
		w.save(t, three)
		holds(t, w.got, append(others, called(3), written(three))...)
		loads(t, w.got, three)
		w.by(t, appendTo(called(7), b))
		w.clean(t)
		holds(t, w.got, append(others, called(3), written(three))...)
		w.crash(t)
		w.save(t, nine)
		w.clean(t)
		holds(t, w.got, append(others, called(9), written(nine))...)
	}
}

// ignored tells where a file isn't ignored: Load falls back on an elder snapshot or on none, Clean removes the file, and Save writes it anew.
func ignored(t *testing.T, what, name, b string) {
	t.Helper()
	if _, ok := whole(name, b); ok {
		t.Fatalf("%s: %s is complete", what, name)
	}
	alone := newTwins(t, api.MaxDisk, durable(name, b)...)
	loadsNone(t, alone.got, api.OK)
	alone.clean(t)
	holds(t, alone.got)
	zero := api.Snap{Data: "zero"}
	w := newTwins(t, api.MaxDisk, durable(called(0), written(zero), name, b)...)
	loads(t, w.got, zero)
	w.clean(t)
	holds(t, w.got, called(0), written(zero))
	over := newTwins(t, api.MaxDisk, durable(name, b)...)
	over.save(t, eight)
	loads(t, over.got, eight)
	over.clean(t)
	holds(t, over.got, called(8), written(eight))
	if t.Failed() {
		t.Fatalf("%s: %s with %d bytes %.60x", what, name, len(b), b)
	}
}

// P8.1: a complete file with each of its bytes turned, doubled and left out, cut at each, and with bytes behind.
func TestBrokenBytes(t *testing.T) {
	for _, s := range []api.Snap{eight, {Index: 8}, {Index: 8, Term: 300, Data: strings.Repeat("ab\x00", 100)}} {
		b := written(s)
		for i := range len(b) {
			ignored(t, "cut", called(8), b[:i])
			ignored(t, "with another byte", called(8), b[:i]+"\x01"+b[i:])
			if i+1 < len(b) && b[i] != b[i+1] {
				ignored(t, "with two bytes exchanged", called(8), b[:i]+b[i+1:i+2]+b[i:i+1]+b[i+2:])
			}
			for _, c := range []byte{1, 2, 4, 8, 16, 32, 64, 128, 255} {
				ignored(t, "turned", called(8), b[:i]+string([]byte{b[i] ^ c})+b[i+1:])
			}
		}
		for i := 1; i < len(b); i++ {
			ignored(t, "without its first bytes", called(8), b[i:])
			ignored(t, "without a byte", called(8), b[:i-1]+b[i:])
		}
		for _, c := range []string{"\x00", "\xff", "\x00\x00\x00\x00", b, summed("")} {
			ignored(t, "with bytes behind", called(8), b+c)
			ignored(t, "with bytes ahead", called(8), c+b)
		}
	}
}

// P8.1: a right checksum over bytes that aren't the encoding of a valid snapshot, and other checksums.
func TestWrongFiles(t *testing.T) {
	right := body(eight)
	c := summed(right)[:4]
	data := right[4:]
	huge := strings.Repeat("d", 1<<20+1)
	for what, b := range map[string]string{
		"nothing":                   summed(""),
		"only an index":             summed(plain(8)),
		"no data":                   summed(plain(8) + plain(2)),
		"a length without data":     summed(plain(8) + plain(2) + plain(14)),
		"less data than the length": summed(right[:len(right)-1]),
		"more data than the length": summed(right + "!"),
		"a number behind":           summed(right + plain(0)),
		"an encoding twice":         summed(right + right),
		"a number ahead":            summed(plain(8) + right),
		"data without a length":     summed(plain(8) + plain(2) + eight.Data),
		"no term":                   summed(plain(8) + data),
		"term and index exchanged":  summed(plain(2) + plain(8) + data),
		"data ahead":                summed(data + plain(8) + plain(2)),
		"index with a zero":         summed("\x02\x00\x08" + right[2:]),
		"index with seven zeros":    summed("\x08\x00\x00\x00\x00\x00\x00\x00\x08" + right[2:]),
		"index of nine bytes":       summed("\x09\x00\x00\x00\x00\x00\x00\x00\x00\x08" + right[2:]),
		"index, least byte first":   summed("\x02\x08\x00" + right[2:]),
		"index without a length":    summed("\x08" + right[2:]),
		"term with a zero":          summed(plain(8) + "\x02\x00\x02" + data),
		"term zero as a byte":       summed(plain(8) + "\x01\x00" + data),
		"length with a zero":        summed(plain(8) + plain(2) + "\x02\x00" + data[1:]),
		"length zero as a byte":     summed(plain(8) + plain(2) + "\x01\x00"),
		"term of 2^40 + 1":          written(api.Snap{Index: 8, Term: 1<<40 + 1, Data: eight.Data}),
		"term of 2^62 - 1":          written(api.Snap{Index: 8, Term: 1<<62 - 1, Data: eight.Data}),
		"term of 2^62":              summed(plain(8) + "\x08\x40\x00\x00\x00\x00\x00\x00\x00" + data),
		"term of -1":                summed(plain(8) + "\x08" + strings.Repeat("\xff", 8) + data),
		"length of -1":              summed(plain(8) + plain(2) + "\x08" + strings.Repeat("\xff", 8) + eight.Data),
		"length of 2^40":            summed(plain(8) + plain(2) + plain(1<<40) + eight.Data),
		"index of 2^40 + 8":         summed(plain(1<<40+8) + right[2:]),
		"index of 2^56 + 8":         summed(plain(1<<56+8) + right[2:]),
		"data of 2^20 + 1 bytes":    written(api.Snap{Index: 8, Term: 2, Data: huge}),
		"data of 2^21 + 2 bytes":    written(api.Snap{Index: 8, Term: 2, Data: huge + huge}),
		"no checksum":               right,
		"a checksum of zeros":       "\x00\x00\x00\x00" + right,
		"a checksum turned round":   string([]byte{c[3], c[2], c[1], c[0]}) + right,
		"a checksum behind":         right + c,
		"the checksum of the data":  summed(eight.Data)[:4] + right,
		"the checksum of the file":  summed(called(8) + right)[:4] + right,
		"a checksum of a checksum":  summed(summed(right)),
		"another one's checksum":    summed(body(nine))[:4] + right,
	} {
		ignored(t, what, called(8), b)
	}
}

// P8.1: a complete file under another name, and names whose numbers are greater than 2^40.
func TestOtherNames(t *testing.T) {
	for _, n := range []int{1, 7, 9, 18, 80, 800, 8000000000000, 1 << 40, 1<<40 + 8} {
		ignored(t, "another snapshot's name", called(n), written(eight))
	}
	for _, n := range []int{1<<40 + 1, 1<<40 + 8, 2 << 40, 9999999999999} {
		for _, term := range []int{0, 1 << 40} {
			ignored(t, "a number beyond 2^40", called(n), written(api.Snap{Index: n, Term: term, Data: "x"}))
			ignored(t, "a number beyond 2^40", called(n), written(api.Snap{Index: 1 << 40, Term: term, Data: "x"}))
		}
	}
}

// P8.1: Load of an empty disk, of broken files only, of broken files that are newer or elder than complete ones, and of several complete ones.
func TestLoad(t *testing.T) {
	a, b, c := written(three), written(eight), written(nine)
	last := api.Snap{Index: 1 << 40, Term: 9, Data: "last"}
	for _, x := range []struct {
		files []string
		want  api.Snap
	}{
		{nil, api.Snap{}},
		{[]string{called(3), ""}, api.Snap{}},
		{[]string{called(3), b, called(8), c, called(9), a}, api.Snap{}},
		{[]string{called(3), a}, three},
		{[]string{called(3), a, called(4), "?"}, three},
		{[]string{called(3), a, called(2), "?"}, three},
		{[]string{called(3), a, called(8), b}, eight},
		{[]string{called(9), c, called(8), b, called(3), a}, nine},
		{[]string{called(3), a, called(8), b[1:], called(9), c + "\x00"}, three},
		{[]string{called(3), a, called(8), b, called(9), b}, eight},
		{[]string{called(3), a, called(8), b, called(1<<40 + 1), written(api.Snap{Index: 1<<40 + 1})}, eight},
		{[]string{called(9), c, called(10), written(api.Snap{Index: 10})}, api.Snap{Index: 10}},
		{[]string{called(999), written(api.Snap{Index: 999}), called(1 << 40), written(last), called(9999999999999), ""}, last},
		{[]string{called(0), written(api.Snap{Data: "zero"}), called(1), "", "s3", a}, api.Snap{Data: "zero"}},
		{[]string{called(3), written(api.Snap{Index: 3, Term: 1 << 40}), called(8), b}, eight}, // not the greatest term
	} {
		w := newTwins(t, 0, durable(x.files...)...)
		w.setFuse(t, 0) // nothing is done
		for range 2 {
			if s, _ := w.load(t); s != x.want {
				t.Errorf("%q: %s, want %s", w.got.Names(), told(s), told(x.want))
			}
		}
	}
	zero := newTwins(t, 0, durable(called(0), written(api.Snap{}))...)
	if s, ok := zero.load(t); s != (api.Snap{}) || !ok {
		t.Errorf("the least snapshot: %s, %v", told(s), ok)
	}
}

// P8.1: bytes that aren't synced count for Load, too.
func TestLoadUnsynced(t *testing.T) {
	b := written(eight)
	w := newTwins(t, api.MaxDisk, file{called(3), written(three), ""}, file{called(8), b[:10], b[10:]})
	loads(t, w.got, eight)
	w.crash(t, len(b)-11)
	loads(t, w.got, three)
	w.clean(t)
	holds(t, w.got, called(3), written(three))
}

// P8.1: Clean with no complete file, and with the newest one last, in the middle, first and alone: what it removes, in which order, and that a crash at each operation leaves the rest.
func TestClean(t *testing.T) {
	a, b, c := written(three), written(eight), written(nine)
	for _, x := range []struct {
		files []string
		gone  []int // in this order
	}{
		{nil, nil},
		{[]string{called(8), b}, nil},
		{[]string{called(8), "?"}, []int{8}},
		{[]string{called(0), "?"}, []int{0}},
		{[]string{called(0), "", called(3), a[1:]}, []int{0, 3}},
		{[]string{called(3), "", called(8), c, called(9), b, called(11), "x"}, []int{3, 8, 9, 11}},
		{[]string{called(3), a, called(8), b, called(9), c}, []int{3, 8}},
		{[]string{called(9), c, called(3), a, called(10), "?", called(8), b, called(20), ""}, []int{3, 8, 10, 20}},
		{[]string{called(3), a, called(8), "?", called(9), c[1:], called(1<<40 + 3), a}, []int{8, 9, 1<<40 + 3}},
		{[]string{called(1), a, called(2), "", called(3), a, called(9999999999999), ""}, []int{1, 2, 9999999999999}},
		{[]string{called(0), "", called(1 << 40), written(api.Snap{Index: 1 << 40})}, []int{0}},
	} {
		others := append(slices.Clone(x.files), "s3", a, "w000000000001", "log", "0", "")
		for n := range len(x.gone) + 1 {
			d := newDisk(t, 0, durable(others...)...)
			d.Fuse(n)
			want := api.OK
			if n < len(x.gone) {
				want = api.ErrDown
			}
			is(t, "Clean", Clean(d), want)
			if d.Down() != (want == api.ErrDown) {
				t.Errorf("down: %v", d.Down())
			}
			d.Crash(nil)
			var left []string
			for i := 0; i < len(others); i += 2 {
				if !slices.ContainsFunc(x.gone[:n], func(k int) bool { return called(k) == others[i] }) {
					left = append(left, others[i], others[i+1])
				}
			}
			holds(t, d, left...)
		}
		everyFuse(t, api.MaxDisk, durable(others...), func(w *twins) { w.clean(t) })
	}
}
