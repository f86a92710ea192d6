package wal

import (
	"maps"
	"slices"
	"strings"
	"testing"

	"exchequer/api"
	"exchequer/disk"
)

// hard is a record that most logs begin with here.
var hard = api.Record{Kind: api.RecHard, Term: 3, Vote: 2}

// entry returns the record of an entry.
func entry(index int, data string) api.Record {
	return api.Record{Kind: api.RecEntry, Index: index, Term: 1, Data: data}
}

// sized returns a record whose frame has so many bytes.
func sized(t *testing.T, size int) api.Record {
	t.Helper()
	for _, index := range []int{7, 1000} {
		for k := max(0, size-30); k < size; k++ {
			if r := entry(index, strings.Repeat("x", k)); len(frames(r)) == size {
				return r
			}
		}
	}
	t.Fatalf("no record has a frame of %d bytes", size)
	return api.Record{}
}

// is tells where an answer isn't the error that it should be.
func is(t *testing.T, what string, got, want api.Errno) {
	t.Helper()
	if got != want {
		t.Errorf("%s: %v, want %v", what, got, want)
	}
}

// empty returns an empty disk with much room and its log.
func empty(t *testing.T) (*disk.Disk, *Wal) {
	t.Helper()
	w := opened(t, nil, api.MaxDisk)
	return w.d, w.w
}

// reopened opens the log of a disk and tells where it hasn't the records that it should have; and again.
func reopened(t *testing.T, d *disk.Disk, want ...api.Record) *Wal {
	t.Helper()
	var w *Wal
	for range 2 {
		var l []api.Record
		var err api.Errno
		w, l, err = Open(d)
		if w == nil || err != api.OK || !slices.Equal(l, want) {
			t.Fatalf("opened: %v, %s, want %s", err, told(l), told(want))
		}
	}
	return w
}

// P7.1: the examples of the chapter, byte by byte.
func TestExamples(t *testing.T) {
	const (
		head1 = "\x00\x00\x00\x07\x75\x9b\x49\xba\x01\x01\x01\x01\x00\x00\x00"
		first = "\x00\x00\x00\x08\x22\x36\x40\x35\x01\x02\x00\x01\x03\x01\x02\x00"
		put   = "\x00\x00\x00\x0d\x30\xf6\x1c\xaa\x01\x03\x02\x01\x2c\x01\x04\x00\x01\x03put"
	)
	d, w := empty(t)
	is(t, "Start", w.Start(hard), api.OK)
	durable("w000000000001", head1+first).holds(t, d)
	e := api.Record{Kind: api.RecEntry, Index: 300, Term: 4, Data: "put"}
	is(t, "Append", w.Append(e), api.OK)
	durable("w000000000001", head1+first+put).holds(t, d)
	if n := w.Segments(); n != 1 {
		t.Errorf("%d segments", n)
	}
	reopened(t, d, hard, e)
	d.Crash(nil)
	durable("w000000000001", head1+first).holds(t, d)
	reopened(t, d, hard)
}

// P7.1: other bytes that the words ask for: no records, the greatest numbers, all in one segment.
func TestBytes(t *testing.T) {
	const (
		head0   = "\x00\x00\x00\x06\x47\xfe\x5b\xb6\x01\x01\x00\x00\x00\x00"
		longest = "\x00\x00\x00\x18\x10\x7e\xe0\x3d\x01\x04\x06\x01\x00\x00\x00\x00\x00\x06\x01\x00\x00\x00\x00\x00\x06\x01\x00\x00\x00\x00\x00\x00"
	)
	d, w := empty(t)
	is(t, "Start", w.Start(), api.OK)
	durable("w000000000001", head0).holds(t, d)
	r := api.Record{Kind: api.RecBase, Index: 1 << 40, Term: 1 << 40, Vote: 1 << 40}
	is(t, "Append", w.Append([]api.Record{r, r}...), api.OK)
	durable("w000000000001", head0+longest+longest).holds(t, d)
	is(t, "Start", w.Start([]api.Record{r, hard}...), api.OK)
	durable("w000000000002", head(2)+longest+frames(hard)).holds(t, d)
	reopened(t, d, r, hard)
}

// P7.1: each edge of each number, each kind, and the longest data, at Start and at Append.
func TestValidRecords(t *testing.T) {
	for _, n := range []int{0, 1, 255, 256, 1<<40 - 1, 1 << 40} {
		for _, r := range []api.Record{
			{Kind: api.RecHard, Index: n}, {Kind: api.RecEntry, Term: n}, {Kind: api.RecBase, Vote: n}, {Kind: api.RecBase, Index: n, Term: n, Vote: n, Data: "\x00\xff"},
		} {
			takes(t, r)
		}
	}
	for _, k := range []int{api.RecHard, api.RecEntry, api.RecBase} {
		for _, size := range []int{0, 1, 255, 256, 1<<17 - 1, 1 << 17} {
			takes(t, api.Record{Kind: k, Index: 1 << 40, Term: 1 << 40, Vote: 1 << 40, Data: strings.Repeat("\xa5", size)})
		}
	}
}

// takes tells whether a log doesn't take a record, or doesn't give it back.
func takes(t *testing.T, r api.Record) {
	t.Helper()
	d, w := empty(t)
	is(t, "Start "+told([]api.Record{r}), w.Start(r, hard, r), api.OK)
	is(t, "Append "+told([]api.Record{r}), w.Append(hard, r, r), api.OK)
	reopened(t, d, r, hard, r, hard, r, r)
}

// wrong returns records that aren't valid.
func wrong() []api.Record {
	l := []api.Record{{Kind: api.RecStart}, {Kind: api.RecStart, Index: 1}}
	for _, k := range []int{-1 << 63, -2, -1, 0, 1, 5, 6, 258, 259, 260, 1<<63 - 1} {
		l = append(l, api.Record{Kind: k, Index: 1, Term: 1})
	}
	for _, n := range []int{-1 << 63, -1 << 40, -2, -1, 1<<40 + 1, 1<<40 + 2, 1 << 62, 1<<63 - 1} {
		l = append(l, api.Record{Kind: api.RecHard, Index: n}, api.Record{Kind: api.RecEntry, Term: n}, api.Record{Kind: api.RecBase, Vote: n})
	}
	for _, k := range []int{api.RecHard, api.RecEntry, api.RecBase} {
		l = append(l, api.Record{Kind: k, Data: strings.Repeat("x", 1<<17+1)}, api.Record{Kind: k, Data: strings.Repeat("x", 1<<20)})
	}
	return l
}

// P7.1: what is no valid record is refused, alone and among others, and nothing has changed.
func TestRefusedRecords(t *testing.T) {
	f := durable("w000000000004", head(1)+frames(hard), "w000000000005", frames(hard))
	for _, r := range wrong() {
		for _, l := range [][]api.Record{{r}, {r, hard}, {hard, r}, {hard, r, hard}, {hard, hard, r}} {
			w := opened(t, f, api.MaxDisk)
			is(t, "Start "+told(l), w.w.Start(l...), api.ErrArg)
			is(t, "Append "+told(l), w.w.Append(l...), api.ErrArg)
			f.holds(t, w.d)
			w.append(t, hard)
			w.start(t, hard)

			d, none := empty(t)
			is(t, "Start "+told(l), none.Start(l...), api.ErrArg)
			is(t, "Append "+told(l), none.Append(l...), api.ErrArg)
			files{}.holds(t, d)
			if n := none.Segments(); n != 0 {
				t.Errorf("%d segments", n)
			}
		}
	}
}

// P7.1: a log without a segment, and calls without records.
func TestNoSegment(t *testing.T) {
	d, w := empty(t)
	for range 2 {
		is(t, "Append", w.Append(hard), api.ErrArg)
		is(t, "Append of none", w.Append(), api.ErrArg)
		is(t, "Append of an empty slice", w.Append([]api.Record{}...), api.ErrArg)
		is(t, "Sync", w.Sync(), api.OK)
		if n := w.Segments(); n != 0 {
			t.Errorf("%d segments", n)
		}
		files{}.holds(t, d)
	}
	d.Fuse(0)
	is(t, "Append of none", w.Append(), api.ErrArg)
	is(t, "Sync", w.Sync(), api.OK)
	d.Fuse(-1)
	is(t, "Start", w.Start(), api.OK)
	d.Fuse(0)
	is(t, "Append of none", w.Append(), api.OK)
	is(t, "Append of an empty slice", w.Append([]api.Record{}...), api.OK)
	d.Fuse(-1)
	durable("w000000000001", head(0)).holds(t, d)
	if n := w.Segments(); n != 1 {
		t.Errorf("%d segments", n)
	}
	reopened(t, d)
}

// P7.1: with which size a segment takes no more, counted from what was found and from what was appended.
func TestFullSegments(t *testing.T) {
	const beginning = 15 + 16 // a header and hard
	for _, size := range []int{2046, 2047, 2048, 2049, 4000} {
		filled := sized(t, size-beginning)
		for _, found := range []bool{false, true} {
			for _, parts := range [][]api.Record{{filled}, {entry(1, "a"), entry(2, ""), sized(t, size-beginning-len(frames(entry(1, "a"), entry(2, ""))))}} {
				w := opened(t, nil, api.MaxDisk)
				w.start(t, hard)
				for _, r := range parts {
					w.append(t, r)
				}
				if w.f.used() != size {
					t.Fatalf("%d bytes, want %d", w.f.used(), size)
				}
				if found {
					w.open(t)
				}
				w.append(t, entry(9, "more"))
				want := 1
				if size >= 2048 {
					want = 2
				}
				if n := w.w.Segments(); n != want || len(w.d.Names()) != want {
					t.Errorf("%d bytes: %d segments, files %q", size, n, w.d.Names())
				}
				reopened(t, w.d, slices.Concat([]api.Record{hard}, parts, []api.Record{entry(9, "more")})...)
			}
		}
	}
}

// P7.1: the size of a segment is counted anew in each one: where one follows, where Start makes one, where Open has cut or emptied one.
func TestSizesOfLaterSegments(t *testing.T) {
	big := sized(t, 2048)
	w := opened(t, nil, api.MaxDisk)
	w.start(t, big)
	for i := range 3 {
		w.append(t, entry(i, "small"))
		w.append(t, big)
	}
	if n := w.w.Segments(); n != 4 {
		t.Errorf("%d segments", n)
	}
	w.start(t, hard)
	w.append(t, hard)
	w.append(t, sized(t, 2047-15-2*16))
	w.append(t, hard)
	w.append(t, hard)
	if l := w.d.Names(); !slices.Equal(l, []string{"w000000000005", "w000000000006"}) {
		t.Errorf("files %q", l)
	}
	for _, s := range []string{"", frames(hard)[:9], strings.Repeat("\xff", 3000)} {
		w := opened(t, durable("w000000000001", head(1)+frames(hard), "w000000000002", s), api.MaxDisk)
		w.append(t, big)
		if l := w.d.Names(); len(l) != 2 {
			t.Errorf("files %q", l)
		}
		w.append(t, hard)
		if l := w.d.Names(); len(l) != 3 {
			t.Errorf("files %q", l)
		}
	}
	w = opened(t, durable("w000000000001", head(1)+frames(hard)+strings.Repeat("\xff", 3000)), api.MaxDisk)
	w.append(t, hard)
	if l := w.d.Names(); len(l) != 1 {
		t.Errorf("files %q", l)
	}
}

// P7.1: the number of a segment ends at 999999999999; records that aren't valid come first.
func TestGreatestNumber(t *testing.T) {
	const greatest = "w999999999999"
	small, full := head(1)+frames(hard), head(0)+frames(sized(t, 2048-14))
	for _, f := range []files{durable(greatest, small), durable("w999999999998", small, greatest, frames(hard))} {
		w := opened(t, f, api.MaxDisk)
		is(t, "Start of a wrong record", w.w.Start(api.Record{}), api.ErrArg)
		is(t, "Start", w.w.Start(hard), api.ErrLong)
		is(t, "Start of none", w.w.Start(), api.ErrLong)
		f.holds(t, w.d)
		w.append(t, hard)
		w.append(t, sized(t, 2048))
		w.append(t)
		w.append(t, hard)
		w.start(t, hard)
		w.append(t, api.Record{})
		w.sync(t)
		is(t, "Append", w.w.Append(hard), api.ErrLong)
	}
	f := durable(greatest, full)
	f[greatest] = content{full, 20} // that nothing has changed: no byte is synced either
	w := opened(t, f, api.MaxDisk)
	is(t, "Append", w.w.Append(hard), api.ErrLong)
	is(t, "Append of a wrong record", w.w.Append(hard, api.Record{}), api.ErrArg)
	is(t, "Append of none", w.w.Append(), api.OK)
	is(t, "Start", w.w.Start(hard), api.ErrLong)
	is(t, "Start of a wrong record", w.w.Start(hard, api.Record{}), api.ErrArg)
	f.holds(t, w.d)
	if n := w.w.Segments(); n != 1 {
		t.Errorf("%d segments", n)
	}
	w.crash(t)

	w = opened(t, durable("w999999999998", full), api.MaxDisk)
	w.append(t, sized(t, 2048))
	w.append(t, hard)
	w = opened(t, durable("w999999999998", full), api.MaxDisk)
	w.start(t, hard)
	w.start(t, hard)
	w = opened(t, durable("w999999999999", full, "w1000000000000", frames(hard)), api.MaxDisk)
	w.append(t, hard)
}

// P7.1: with no room nothing has changed, and a later call is done.
func TestFull(t *testing.T) {
	full := head(0) + frames(sized(t, 2048-14))
	for _, f := range []files{nil, durable("w000000000001", head(1)+frames(hard)), durable("w000000000001", full), durable("w000000000007", full, "w000000000008", frames(hard)), durable("zz", "others")} {
		for _, l := range [][]api.Record{{}, {hard}, {hard, entry(1, "abc")}} {
			used := f.used()
			w := opened(t, f, used)
			starting := len(head(len(l)) + frames(l...))
			for _, room := range []int{0, used, used + starting - 1} {
				w.setRoom(room)
				is(t, "Start", w.w.Start(l...), api.ErrFull)
				f.holds(t, w.d)
				w.start(t, l...)
			}
			w.setRoom(used + starting)
			w.start(t, l...)
			if len(l) == 0 {
				continue
			}
			for range 2 {
				w.setRoom(w.f.used() + len(frames(l...)) - 1)
				is(t, "Append", w.w.Append(l...), api.ErrFull)
				w.append(t, l...)
				w.setRoom(w.room + 1)
				w.append(t, l...)
			}
			w.sync(t)
			w.open(t)
		}
	}
}

// P7.1: with no room for a new segment nothing has changed, and a later call is done.
func TestFullAtNewSegment(t *testing.T) {
	full := head(0) + frames(sized(t, 2048-14))
	f := files{"w000000000003": {full, 30}}
	w := opened(t, f, 2048+15)
	is(t, "Append", w.w.Append(hard), api.ErrFull)
	f.holds(t, w.d)
	if n := w.w.Segments(); n != 1 {
		t.Errorf("%d segments", n)
	}
	w.append(t, hard)
	w.sync(t)
	w.setRoom(2048 + 16)
	w.append(t, hard)
	if n := w.w.Segments(); n != 2 {
		t.Errorf("%d segments", n)
	}
	reopened(t, w.d, sized(t, 2048-14), hard)
}

// shut tells whether a log isn't closed.
func shut(t *testing.T, w *Wal) {
	t.Helper()
	for range 2 {
		is(t, "Start when closed", w.Start(hard), api.ErrDown)
		is(t, "Start of a wrong record when closed", w.Start(api.Record{}), api.ErrDown)
		is(t, "Start of none when closed", w.Start(), api.ErrDown)
		is(t, "Append when closed", w.Append(hard), api.ErrDown)
		is(t, "Append of a wrong record when closed", w.Append(api.Record{}), api.ErrDown)
		is(t, "Append of none when closed", w.Append(), api.ErrDown)
		is(t, "Sync when closed", w.Sync(), api.ErrDown)
		if n := w.Segments(); n != 0 {
			t.Errorf("closed: %d segments", n)
		}
	}
}

// P7.1: a nil log, and one that Open hasn't made.
func TestNil(t *testing.T) {
	shut(t, nil)
	shut(t, new(Wal))
}

// P7.1: each method closes the log with an error of the disk, at each of its operations.
func TestPowerFails(t *testing.T) {
	full := head(0) + frames(sized(t, 2048-14))
	f := durable("w000000000001", head(1)+frames(hard), "w000000000002", frames(hard), "w000000000003", full[14:])
	for _, c := range []struct {
		name       string
		f          files
		operations int
		call       func(w *Wal) api.Errno
	}{
		{"Start", f, 5, func(w *Wal) api.Errno { return w.Start(hard) }},
		{"the first Start", nil, 2, func(w *Wal) api.Errno { return w.Start(hard, hard) }},
		{"Append", durable("w000000000001", head(0)), 1, func(w *Wal) api.Errno { return w.Append(hard, hard, hard) }},
		{"Append to a new segment", durable("w000000000001", full), 2, func(w *Wal) api.Errno { return w.Append(hard, hard) }},
		{"Sync", f, 1, func(w *Wal) api.Errno { return w.Sync() }},
	} {
		for k := range c.operations + 1 {
			w := opened(t, c.f, api.MaxDisk)
			w.d.Fuse(k)
			if k == c.operations {
				is(t, c.name, c.call(w.w), api.OK)
				continue
			}
			is(t, c.name, c.call(w.w), api.ErrDown)
			shut(t, w.w)
			w.d.Crash(nil)
			shut(t, w.w)
		}
	}
}

// P7.1: a file that is gone beneath the log closes it where it is asked for, with the disk's error.
func TestGoneFiles(t *testing.T) {
	full := head(0) + frames(sized(t, 2048-14))
	f := durable("w000000000001", full, "w000000000002", frames(hard), "w000000000003", frames(sized(t, 2048)), "w000000000004", frames(hard))
	for n := 1; n <= 4; n++ {
		w := opened(t, f, api.MaxDisk)
		w.by(t, removal(numbered(n)))
		is(t, "Start", w.w.Start(hard), api.ErrGone)
		shut(t, w.w)
		want := maps.Clone(f)
		for k := 1; k <= n; k++ {
			delete(want, numbered(k))
		}
		want["w000000000005"] = content{bytes: head(1) + frames(hard)}
		want.holds(t, w.d)
		w.d.Crash(nil) // the new segment was synced ahead of that
		want.holds(t, w.d)
		reopened(t, w.d, hard)
	}
	w := opened(t, f, api.MaxDisk)
	w.by(t, removal("w000000000004"))
	is(t, "Sync", w.w.Sync(), api.ErrGone)
	shut(t, w.w)
	delete(f, "w000000000004")
	w = opened(t, f, api.MaxDisk)
	w.by(t, removal("w000000000003"))
	is(t, "Append to a new segment", w.w.Append(hard), api.ErrGone)
	shut(t, w.w)
	delete(f, "w000000000003")
	f.holds(t, w.d)
	w = opened(t, f, api.MaxDisk)
	w.by(t, removal("w000000000002"))
	is(t, "Append to a file that is gone", w.w.Append(hard), api.OK)
	is(t, "Sync of it", w.w.Sync(), api.OK)
}

// P7.1: while the disk is down, what needs no operation of it is answered as ever, and the log is closed by what does.
func TestDiskDown(t *testing.T) {
	f := durable("w000000000001", head(1)+frames(hard), "w000000000002", frames(hard))
	for _, call := range []func(w *Wal) api.Errno{
		func(w *Wal) api.Errno { return w.Start(hard) },
		func(w *Wal) api.Errno { return w.Append(hard) },
		func(w *Wal) api.Errno { return w.Sync() },
	} {
		w := opened(t, f, api.MaxDisk)
		w.d.Fuse(0)
		w.d.Sync("w000000000001")
		is(t, "Start of a wrong record", w.w.Start(api.Record{}), api.ErrArg)
		is(t, "Append of a wrong record", w.w.Append(api.Record{}), api.ErrArg)
		is(t, "Append of none", w.w.Append(), api.OK)
		if n := w.w.Segments(); n != 2 {
			t.Errorf("%d segments", n)
		}
		is(t, "a call on a disk that is down", call(w.w), api.ErrDown)
		shut(t, w.w)
	}
}

// P7.1: a log that wasn't closed goes on after a crash, with the sizes that it has counted.
func TestCrashBeneath(t *testing.T) {
	w := opened(t, nil, api.MaxDisk)
	w.start(t, hard)
	w.append(t, sized(t, 2048))
	w.crash(t)
	w.append(t, hard)
	if n := w.w.Segments(); n != 2 {
		t.Errorf("%d segments", n)
	}
	w.open(t)
}

// P7.1: segments that are put beneath the log stay until it is opened again; a file with the next number is appended to.
func TestSegmentsBeneath(t *testing.T) {
	w := opened(t, durable("w000000000005", head(0)+frames(sized(t, 2048)), "w000000000006", ""), api.MaxDisk)
	for _, n := range []int{1, 4, 8, 9} {
		w.by(t, appendTo(numbered(n), frames(hard)))
	}
	w.start(t, hard)
	if l := w.d.Names(); !slices.Equal(l, []string{numbered(1), numbered(4), numbered(7), numbered(8), numbered(9)}) {
		t.Errorf("files %q", l)
	}
	w.append(t, sized(t, 2048))
	w.append(t, hard)
	w.start(t, entry(1, "a"))
	w.append(t, entry(2, "b"))
	w.sync(t)
	w.open(t)
}

// P7.1: records are taken one by one and as a slice, which isn't changed and not kept.
func TestSlices(t *testing.T) {
	l := []api.Record{hard, entry(1, "a"), entry(2, "b"), entry(3, "c")}
	kept := slices.Clone(l)
	d, w := empty(t)
	is(t, "Start", w.Start(l[:2]...), api.OK)
	is(t, "Append", w.Append(l[2:]...), api.OK)
	if !slices.Equal(l, kept) {
		t.Errorf("records are changed: %s", told(l))
	}
	clear(l)
	reopened(t, d, kept...)
	e, one := empty(t)
	is(t, "Start", one.Start(kept[0], kept[1]), api.OK)
	is(t, "Append", one.Append(kept[2], kept[3]), api.OK)
	a, _ := d.Read("w000000000001")
	durable("w000000000001", a).holds(t, e)
}

// P7.1: logs on different disks have nothing in common.
func TestTwoLogs(t *testing.T) {
	a, b := opened(t, nil, api.MaxDisk), opened(t, nil, 100)
	a.start(t, hard)
	b.start(t)
	b.start(t, hard, hard)
	a.append(t, sized(t, 3000))
	b.append(t, sized(t, 3000))
	a.append(t, hard)
	b.append(t, hard)
	b.by(t, removal("w000000000002"))
	b.sync(t)
	a.sync(t)
	a.open(t)
	b.open(t)
}
