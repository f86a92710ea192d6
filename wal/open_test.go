package wal

import (
	"fmt"
	"maps"
	"slices"
	"strings"
	"testing"

	"exchequer/api"
	"exchequer/disk"
)

// everyCrash makes calls with each fuse at which the power fails, and with each of some things that a crash keeps; and opens the log afterwards.
func everyCrash(t *testing.T, f files, room int, isOpen bool, calls func(w *twins)) {
	t.Helper()
	for fuse := 0; ; fuse++ {
		done := false
		for keep := range 6 {
			w := newTwins(t, f, room)
			if isOpen {
				w.open(t)
			}
			w.setFuse(fuse)
			calls(w)
			done = !w.off
			late := w.f.late()
			switch keep {
			case 0:
				late = nil
			case 1:
			default:
				for i := range late {
					late[i] = late[i] * (keep - 1 + i%2) / 5
				}
			}
			w.crash(t, late...)
			w.open(t)
			w.open(t)
			w.append(t, hard)
			w.start(t, hard, hard)
			w.open(t)
		}
		if done {
			return
		}
	}
}

// P7.1: a disk that is down, or none, can't be opened.
func TestOpenDown(t *testing.T) {
	d := durable("w000000000001", head(0)).disk(t, api.MaxDisk)
	d.Fuse(0)
	d.Sync("w000000000001")
	for _, d := range []*disk.Disk{nil, d} {
		for range 2 {
			w, l, err := Open(d)
			if w != nil || l != nil || err != api.ErrDown {
				t.Errorf("Open: %v, %v, %v", w, l, err)
			}
		}
	}
	d.Crash(nil)
	reopened(t, d)
}

// P7.1: an empty disk, one without room, and one that disk.New hasn't made.
func TestOpenEmpty(t *testing.T) {
	for _, room := range []int{0, 1, api.MaxDisk} {
		d := files(nil).disk(t, room)
		d.Fuse(0) // nothing is done
		w := reopened(t, d)
		if n := w.Segments(); n != 0 || d.Down() {
			t.Errorf("%d segments, down: %v", n, d.Down())
		}
	}
	w := reopened(t, new(disk.Disk))
	is(t, "Start", w.Start(hard), api.ErrFull)
}

// strange returns names of files that aren't segments.
func strange() []string {
	return []string{
		"w1", "w", "x", "ww00000000001", "w00000000001", "w0000000000001", "w000000000000", "w00000000000a", "wa00000000001", "w-00000000001",
		"w0000000000-1", "w_00000000001", "w00000000_001", "w99999999999", "w9999999999999", "x000000000001", "v000000000001", "0000000000001", "000000000001", "000000000001w",
		"w00000000000é", "w0000000000é", "w0000000000001", "w000000000001a", "w000000000001-old", "s000000000001", "é00000000001",
		"w00000000000٣", "ｗ000000000001",
	}
}

// P7.1: files that aren't segments are ignored, whatever they have.
func TestOtherFiles(t *testing.T) {
	for _, b := range []string{"", head(0), head(1) + frames(hard), "\xff\xff"} {
		f := files{}
		for i, n := range strange() {
			f[n] = content{b, len(b) * (i % 2)}
		}
		d := f.disk(t, api.MaxDisk)
		d.Fuse(0)
		if w := reopened(t, d); w.Segments() != 0 {
			t.Errorf("%d segments", w.Segments())
		}
		d.Fuse(-1)
		f.holds(t, d)
		w := opened(t, f, api.MaxDisk)
		w.start(t, hard)
		w.append(t, sized(t, 2048))
		w.append(t, hard)
		w.start(t)
		w.open(t)
		for _, n := range strange() {
			if got, err := w.d.Read(n); got != b || err != api.OK {
				t.Errorf("%s: %x, %v", n, got, err)
			}
		}
	}
	for _, n := range strange() {
		w := opened(t, durable("w000000000001", head(1)+frames(hard), n, head(0), "w000000000002", frames(hard)), api.MaxDisk)
		if w.w.Segments() != 2 {
			t.Errorf("%s: %d segments", n, w.w.Segments())
		}
	}
}

// P7.1: what segments of any number from 1 to 999999999999 are called.
func TestSegmentNames(t *testing.T) {
	for n, name := range map[int]string{1: "w000000000001", 9: "w000000000009", 10: "w000000000010", 12345: "w000000012345", 100000000000: "w100000000000", 999999999998: "w999999999998"} {
		d := durable(name, head(0)).disk(t, api.MaxDisk)
		w := reopened(t, d)
		is(t, "Start", w.Start(hard), api.OK)
		if l := d.Names(); !slices.Equal(l, []string{fmt.Sprintf("w%012d", n+1)}) {
			t.Errorf("behind %s: %q", name, l)
		}
	}
}

// parts returns segments of all sorts: without and with a beginning, whole or not, and broken.
func parts() []string {
	h, r := frames(hard), frames(entry(5, "data"))
	return []string{
		"", r, h + r, r + "\x00", h[:len(h)-1], "\x00\x00\x00\x00\x00\x00\x00\x00",
		head(0), head(0) + r, head(1), head(1) + h, head(2) + h + r + h, head(2) + r, head(1) + h + r[:9], head(1) + r[:len(r)-1],
		head(0) + head(0) + r, head(1) + head(0), r + head(0), head(0) + r + head(1) + h, head(3) + h + head(0) + r + r, head(1 << 40), head(1<<62 - 1),
		frames(api.Record{Kind: api.RecStart, Term: 1}) + r, frames(api.Record{Kind: api.RecStart, Vote: 1}), frames(api.Record{Kind: api.RecStart, Index: 1, Data: "x"}) + r,
	}
}

// P7.1: one, two and three segments of all sorts, with numbers missing between them or not, against the model; and a crash at each operation.
func TestSegmentsOfAllSorts(t *testing.T) {
	l := parts()
	for _, a := range l {
		everyCrash(t, durable("w000000000003", a), api.MaxDisk, false, func(w *twins) { w.open(t) })
		for _, b := range l {
			for _, n := range [][]int{{1, 2}, {4, 6}, {999999999998, 999999999999}} {
				f := durable(numbered(n[0]), a, numbered(n[1]), b)
				everyCrash(t, f, api.MaxDisk, false, func(w *twins) { w.open(t) })
			}
			if testing.Short() {
				continue
			}
			for _, c := range l {
				for _, n := range [][]int{{1, 2, 3}, {1, 2, 4}, {2, 4, 5}, {9, 10, 11}} {
					w := opened(t, durable(numbered(n[0]), a, numbered(n[1]), b, numbered(n[2]), c), api.MaxDisk)
					w.append(t, hard)
					w.open(t)
				}
			}
		}
	}
}

// P7.1: what Open removes and truncates of many segments, and in which order.
func TestOrderOfOpen(t *testing.T) {
	h, r := frames(hard), frames(entry(5, "data"))
	whole := head(1) + h
	for _, f := range []files{
		durable(numbered(1), whole, numbered(2), r, numbered(3), whole+r, numbered(4), r, numbered(5), r+"?", numbered(6), r, numbered(7), head(9), numbered(9), r),
		durable(numbered(1), whole, numbered(2), r, numbered(4), r, numbered(5), "?", numbered(8), head(1)),
		durable(numbered(2), whole+"?", numbered(3), r, numbered(5), r, numbered(7), ""),
		durable(numbered(2), r, numbered(3), head(1), numbered(5), r, numbered(7), "", numbered(10), "?"),
		durable(numbered(1), whole, numbered(5), whole, numbered(9), whole, numbered(10), r, numbered(11), "", numbered(12), r, numbered(13), r[:8]),
		{numbered(1): {whole, 3}, numbered(2): {whole + r, 40}, numbered(3): {r + "????", len(r) + 2}, numbered(4): {r, 0}},
		{numbered(1): {whole, 3}, numbered(2): {whole + r, 40}, numbered(3): {r + "????", 2}, numbered(4): {r, 0}},
	} {
		everyCrash(t, f, api.MaxDisk, false, func(w *twins) { w.open(t) })
		everyCrash(t, f, f.used(), false, func(w *twins) { w.open(t); w.start(t, hard) })
	}
	got := func(fuse int) []string {
		d := durable(numbered(1), r, numbered(2), r, numbered(4), whole, numbered(5), r+"?", numbered(6), r, numbered(8), r).disk(t, api.MaxDisk)
		d.Fuse(fuse)
		w, l, err := Open(d)
		if w != nil || l != nil || err != api.ErrDown {
			t.Errorf("Open: %v, %v, %v", w, l, err)
		}
		d.Crash(nil)
		var files []string
		for _, n := range d.Names() {
			s, _ := d.Read(n)
			files = append(files, n[12:]+strings.Repeat("?", strings.Count(s, "?")))
		}
		return files
	}
	for fuse, want := range []string{"1 2 4 5? 6 8", "2 4 5? 6 8", "4 5? 6 8", "4 5 6 8", "4 5 8"} {
		if l := strings.Join(got(fuse), " "); l != want {
			t.Errorf("after %d operations %s, want %s", fuse, l, want)
		}
	}
}

// broken returns s with something else at each of its bytes.
func broken(s string) []string {
	var l []string
	for i := range len(s) {
		l = append(l, s[:i], s[:i]+s[i+1:], s[:i]+"\x00"+s[i:], s[:i]+s[i:i+1]+s[i:])
		for _, c := range []byte{1, 2, 4, 8, 16, 32, 64, 128, 255} {
			l = append(l, s[:i]+string([]byte{s[i] ^ c})+s[i+1:])
		}
	}
	for _, c := range []string{"\x00", "\xff", head(0), head(1), frames(hard)[:15]} {
		l = append(l, s+c)
	}
	return l
}

// P7.1: what is broken at each byte of the first segment, of a middle one and of the last one.
func TestBrokenBytes(t *testing.T) {
	segments := []string{head(2) + frames(hard, entry(1, "one"), entry(2, "")), frames(entry(3, "three"), entry(4, "four")), frames(entry(5, "5"), entry(6, ""), entry(7, "seven"))}
	for i, s := range segments {
		for _, b := range broken(s) {
			f := durable(numbered(1), head(0), numbered(7), segments[0], numbered(8), segments[1], numbered(9), segments[2])
			f[numbered(7+i)] = content{b, len(b)}
			w := opened(t, f, api.MaxDisk)
			w.append(t, hard)
			w.open(t)
			for fuse := range 4 {
				w := newTwins(t, f, api.MaxDisk)
				w.setFuse(fuse)
				w.open(t)
				w.crash(t)
				w.open(t)
			}
		}
	}
}

// wrongFrames returns what isn't the frame of a valid record though it looks like one.
func wrongFrames() map[string]string {
	p := plainPayload(entry(300, "data"))
	right := enclosed(p)
	long := plainPayload(api.Record{Kind: api.RecEntry, Data: strings.Repeat("x", 1<<18)})
	l := map[string]string{
		"length less":              "\x00\x00\x00" + string([]byte{byte(len(p) - 1)}) + right[4:],
		"length more":              "\x00\x00\x00" + string([]byte{byte(len(p) + 1)}) + right[4:],
		"length far more":          "\xff\xff\xff\xff" + right[4:],
		"length with a sign":       "\x80\x00\x00" + right[3:],
		"length, least byte first": string([]byte{byte(len(p))}) + "\x00\x00\x00" + right[4:],
		"checksum":                 right[:7] + string([]byte{right[7] ^ 1}) + right[8:],
		"checksum 0":               right[:4] + "\x00\x00\x00\x00" + right[8:],
		"checksum, turned":         right[:4] + string([]byte{right[7], right[6], right[5], right[4]}) + right[8:],
		"payload":                  right[:10] + string([]byte{right[10] ^ 1}) + right[11:],
		"no payload":               enclosed(""),
		"a byte behind":            enclosed(p + "\x00"),
		"bytes behind":             enclosed(p + p),
		"a byte missing":           enclosed(p[:len(p)-1]),
		"no data":                  enclosed(p[:len(p)-5]),
		"a leading zero":           enclosed("\x02\x00\x03" + p[2:]),
		"a zero with a byte":       enclosed(plain(3) + "\x01\x00" + plain(1) + plain(0) + plain(0)),
		"a number of nine bytes":   enclosed("\x09" + strings.Repeat("\x01", 30)),
		"a number above 2^62":      enclosed(plain(3) + "\x08" + strings.Repeat("\xff", 8) + plain(0) + plain(0) + plain(0)),
		"noise":                    enclosed("\x01\x03????????"),
		"payload of 2^18 bytes":    enclosed(long[:1<<18]),
		"payload beyond 2^18":      enclosed(long),
		"payload of 2^18 + 1":      enclosed(long[:1<<18+1]),
	}
	for i, r := range wrong()[2:] { // those ahead are headers
		if slices.Min([]int{r.Kind, r.Index, r.Term, r.Vote}) >= 0 {
			l[fmt.Sprint("record ", i, told([]api.Record{r}))] = frames(r)
		}
	}
	return l
}

// P7.1: frames of which one thing is wrong are broken: in a beginning, behind it, and in a later segment.
func TestWrongFrames(t *testing.T) {
	h := frames(hard)
	for name, s := range wrongFrames() {
		for _, f := range []files{
			durable(numbered(1), head(1)+s),
			durable(numbered(1), s+head(1)+h),
			durable(numbered(1), head(1)+h+s, numbered(2), h),
			durable(numbered(1), head(1)+h+s+h, numbered(2), s),
			durable(numbered(1), head(1)+h, numbered(2), h+s+h, numbered(3), h),
			durable(numbered(1), head(1)+h, numbered(2), s, numbered(4), h),
			durable(numbered(1), head(1)+h, numbered(2), head(1)+s, numbered(3), head(3)+h+s+h),
		} {
			w := newTwins(t, f, api.MaxDisk)
			l := w.open(t)
			if t.Failed() || strings.Contains(w.f[numbered(1)].bytes+w.f[numbered(2)].bytes, s) || len(l) > 2 || len(w.f) > 2 {
				t.Fatalf("%s: records %s, files %q", name, told(l), w.f.names())
			}
			w.append(t, hard)
			w.start(t, hard)
			w.open(t)
		}
	}
}

// P7.1: a header whose count is beyond the records that follow, or behind which there are more.
func TestCounts(t *testing.T) {
	l := []api.Record{hard, entry(1, "a"), entry(2, "b")}
	for count := range 6 {
		for n := range 4 {
			s := head(count) + frames(l[:n]...)
			d := durable(numbered(1), head(1)+frames(entry(9, "old")), numbered(2), s).disk(t, api.MaxDisk)
			want := l[:n]
			if count > n {
				want = []api.Record{entry(9, "old")}
			}
			w := reopened(t, d, want...)
			if count > n && (w.Segments() != 2 || d.Used() != len(head(1)+frames(entry(9, "old")))) {
				t.Errorf("a header of %d with %d records: %d segments, %d bytes", count, n, w.Segments(), d.Used())
			}
			if count <= n && (w.Segments() != 1 || d.Used() != len(s)) {
				t.Errorf("a header of %d with %d records: %d segments, %d bytes", count, n, w.Segments(), d.Used())
			}
		}
	}
}

// P7.1: the log of the greatest complete beginning is taken, though more would be on elder ones.
func TestSeveralBeginnings(t *testing.T) {
	a, b := head(1)+frames(entry(1, "a")), head(2)+frames(entry(2, "b"), entry(3, "c"))
	f := durable(numbered(1), a, numbered(2), a+frames(hard), numbered(3), frames(hard), numbered(7), b, numbered(8), frames(hard), numbered(9), head(2)+frames(hard))
	d := f.disk(t, api.MaxDisk)
	reopened(t, d, entry(2, "b"), entry(3, "c"), hard)
	durable(numbered(7), b, numbered(8), frames(hard), numbered(9), "").holds(t, d)
	f[numbered(20)] = content{bytes: head(0)}
	d = f.disk(t, api.MaxDisk)
	reopened(t, d)
	durable(numbered(20), head(0)).holds(t, d)
}

// P7.1: what Open returns is the caller's, and shares nothing with the disk or with another answer.
func TestOpenSharesNothing(t *testing.T) {
	f := durable(numbered(1), head(2)+frames(hard, entry(1, "a")), numbered(2), frames(entry(2, "b")))
	d := f.disk(t, api.MaxDisk)
	w, l, err := Open(d)
	_, m, _ := Open(d)
	is(t, "Open", err, api.OK)
	want := slices.Clone(l)
	clear(l[:cap(l)])
	if !slices.Equal(m, want) {
		t.Errorf("another answer is changed: %s", told(m))
	}
	f.holds(t, d)
	is(t, "Append", w.Append(hard), api.OK)
	reopened(t, d, append(want, hard)...)
}

// P7.3: a log that is opened again has the same records, and nothing is done for it.
func TestOpenedAgain(t *testing.T) {
	for _, a := range parts() {
		for _, b := range parts() {
			w := opened(t, durable(numbered(1), a, numbered(2), b, numbered(4), a), api.MaxDisk)
			before := maps.Clone(w.f)
			w.d.Fuse(0)
			_, l, err := Open(w.d)
			_, m, again := Open(w.d)
			if err != api.OK || again != api.OK || !slices.Equal(l, m) || w.d.Down() {
				t.Fatalf("%x, %x: %s, then %s", a, b, told(l), told(m))
			}
			before.holds(t, w.d)
		}
	}
}

// P7.1, P7.2: which operations Start, Append and Sync make, and in which order, with a crash at each of them.
func TestCrashesOfCalls(t *testing.T) {
	big := sized(t, 2048)
	one := durable(numbered(1), head(1)+frames(hard))
	many := durable(numbered(4), head(1)+frames(hard), numbered(5), frames(entry(1, "a")), numbered(6), frames(entry(2, "b"), big))
	late := files{numbered(4): {head(1) + frames(hard, big), 60}}
	for _, f := range []files{nil, one, many, late, durable("others", "x", numbered(1), head(0))} {
		for _, room := range []int{f.used(), f.used() + 40, api.MaxDisk} {
			for _, calls := range []func(w *twins){
				func(w *twins) { w.start(t) },
				func(w *twins) { w.start(t, hard, entry(8, "h")) },
				func(w *twins) { w.append(t, hard) },
				func(w *twins) { w.append(t, entry(7, "g"), entry(8, "h")) },
				func(w *twins) { w.sync(t) },
				func(w *twins) { w.append(t, hard); w.append(t, big); w.append(t, hard, hard); w.sync(t) },
				func(w *twins) {
					w.start(t, hard)
					w.append(t, big, big)
					w.append(t, hard)
					w.start(t, hard)
					w.sync(t)
				},
			} {
				everyCrash(t, f, room, true, calls)
			}
		}
	}
}
