package shot

import (
	"math"
	"slices"
	"strings"
	"testing"
	"unsafe"

	"exchequer/api"
	"exchequer/disk"
)

// Snapshots that most disks have here, and their files.
var (
	three = api.Snap{Index: 3, Term: 1, Data: "x"}
	eight = api.Snap{Index: 8, Term: 2, Data: "state of eight"}
	nine  = api.Snap{Index: 9, Term: 2, Data: ""}
)

// is tells where an answer isn't the error that it should be.
func is(t *testing.T, what string, got, want api.Errno) {
	t.Helper()
	if got != want {
		t.Errorf("%s: %v, want %v", what, got, want)
	}
}

// loads tells where Load doesn't return a snapshot.
func loads(t *testing.T, d *disk.Disk, want api.Snap) {
	t.Helper()
	if s, ok, err := Load(d); s != want || !ok || err != api.OK {
		t.Errorf("Load: %s, %v, %v; want %s", told(s), ok, err, told(want))
	}
}

// loadsNone tells where Load returns anything but that there is none, or an error.
func loadsNone(t *testing.T, d *disk.Disk, want api.Errno) {
	t.Helper()
	if s, ok, err := Load(d); s != (api.Snap{}) || ok || err != want {
		t.Errorf("Load: %s, %v, %v; want none, %v", told(s), ok, err, want)
	}
}

// holds tells where a disk has other files than those, given by their names and bytes in turn.
func holds(t *testing.T, d *disk.Disk, list ...string) {
	t.Helper()
	var names []string
	for i := 0; i < len(list); i += 2 {
		names = append(names, list[i])
		if b, err := d.Read(list[i]); b != list[i+1] || err != api.OK {
			t.Errorf("%s: %x, %v; want %x", list[i], b, err, list[i+1])
		}
	}
	slices.Sort(names)
	if l := d.Names(); !slices.Equal(l, names) {
		t.Errorf("files %q, want %q", l, names)
	}
}

// failed returns a disk with files whose power has failed.
func failed(t *testing.T, l ...file) *disk.Disk {
	t.Helper()
	d := newDisk(t, api.MaxDisk, l...)
	d.Fuse(0)
	is(t, "Append", d.Append("x", ""), api.ErrDown)
	return d
}

// P8.1: the example of the chapter, and other files, byte by byte; they are durable.
func TestExamples(t *testing.T) {
	for _, c := range []struct {
		s             api.Snap
		file, content string
	}{
		{three, "s0000000000003", "\x7e\x54\x4a\xc9\x01\x03\x01\x01\x01\x01x"},
		{api.Snap{}, "s0000000000000", "\xff\x41\xd9\x12\x00\x00\x00"},
		{api.Snap{Index: 1 << 40, Term: 1 << 40}, "s1099511627776", "\x08\x3e\x34\x50\x06\x01\x00\x00\x00\x00\x00\x06\x01\x00\x00\x00\x00\x00\x00"},
		{api.Snap{Index: 300, Term: 4, Data: "put"}, "s0000000000300", "\x1d\x3f\x44\x2b\x02\x01\x2c\x01\x04\x01\x03put"},
		{api.Snap{Index: 12}, "s0000000000012", "\x90\xe2\x41\x1d\x01\x0c\x00\x00"},
	} {
		d := newDisk(t, api.MaxDisk)
		is(t, "Save", Save(d, c.s), api.OK)
		holds(t, d, c.file, c.content)
		d.Crash(nil)
		holds(t, d, c.file, c.content)
		loads(t, d, c.s)
		is(t, "Clean", Clean(d), api.OK)
		holds(t, d, c.file, c.content)
		is(t, "Save", Save(d, c.s), api.OK)
		holds(t, d, c.file, c.content)
	}
}

// P8.1: each edge of each number, and of the length of the data; what isn't valid changes nothing.
func TestValidSnapshots(t *testing.T) {
	most := strings.Repeat("\xa5", 1<<20)
	for _, s := range []api.Snap{
		{Index: 1}, {Index: 255}, {Index: 256}, {Index: 1<<40 - 1}, {Index: 1 << 40}, {Term: 1}, {Term: 255}, {Term: 256}, {Term: 1<<40 - 1}, {Term: 1 << 40},
		{Index: 1 << 40, Term: 1 << 40, Data: most}, {Data: most}, {Data: most[1:]}, {Data: "\x00\xff\x00"}, {Data: most[:255]}, {Data: most[:256]},
	} {
		w := newTwins(t, api.MaxDisk)
		w.save(t, s)
		holds(t, w.got, called(s.Index), written(s))
		w.crash(t)
		loads(t, w.got, s)
		w.clean(t)
		loads(t, w.got, s)
	}
	for _, s := range []api.Snap{
		{Index: -1}, {Index: 1<<40 + 1}, {Index: math.MinInt}, {Index: math.MaxInt}, {Term: -1}, {Term: 1<<40 + 1}, {Term: math.MinInt}, {Term: math.MaxInt},
		{Index: -1, Term: -1}, {Data: most + "\xa5"}, {Data: most + most}, {Index: 10000000000000, Data: "x"}, {Index: 3, Term: -1, Data: most + most},
	} {
		w := newTwins(t, api.MaxDisk, durable(called(3), written(three))...)
		w.setFuse(t, 0)
		is(t, "Save "+told(s), Save(w.got, s), api.ErrArg)
		w.save(t, s)
		holds(t, w.got, called(3), written(three))
		is(t, "Save on no disk", Save(nil, s), api.ErrArg)
		is(t, "Save on a disk that is down", Save(failed(t), s), api.ErrArg)
	}
}

// P8.1: a snapshot that is there already and complete is neither written nor synced again.
func TestSavedAlready(t *testing.T) {
	for _, s := range []api.Snap{{}, three, eight, nine, {Index: 1 << 40, Term: 7, Data: strings.Repeat("\x00", 1<<20)}} {
		for _, f := range []file{{called(s.Index), written(s), ""}, {called(s.Index), "", written(s)}, {called(s.Index), written(s)[:5], written(s)[5:]}} {
			for _, room := range []int{0, api.MaxDisk} {
				w := newTwins(t, room, f)
				w.setFuse(t, 0)
				is(t, "Save", Save(w.got, s), api.OK)
				w.save(t, s)
				holds(t, w.got, f.name, written(s))
				loads(t, w.got, s)
				w.crash(t)
				holds(t, w.got, f.name, f.durable)
			}
		}
	}
}

// olds returns what a file with the name of the snapshot eight can have that isn't this snapshot.
func olds() map[string]string {
	e := written(eight)
	return map[string]string{
		"another term":         written(api.Snap{Index: 8, Term: 1, Data: eight.Data}),
		"other data":           written(api.Snap{Index: 8, Term: 2, Data: "state of eighT"}),
		"more data":            written(api.Snap{Index: 8, Term: 2, Data: eight.Data + "!"}),
		"no data":              written(api.Snap{Index: 8, Term: 2}),
		"another index":        written(api.Snap{Index: 9, Term: 2, Data: eight.Data}),
		"nothing":              "",
		"a beginning":          e[:9],
		"all but a byte":       e[:len(e)-1],
		"a byte behind":        e + "\x00",
		"twice":                e + e,
		"a wrong checksum":     "\x00" + e[1:],
		"a leading zero":       summed("\x02\x00\x08" + body(eight)[2:]),
		"other bytes":          "????",
		"a greater file":       strings.Repeat("?", 5000),
		"a term out of range":  written(api.Snap{Index: 8, Term: 1<<40 + 1, Data: eight.Data}),
		"an index beyond 2^40": written(api.Snap{Index: 1<<40 + 8, Term: 2, Data: eight.Data}),
	}
}

// P8.1: Save over a file of that name that is broken, empty, or of another snapshot, with a crash at each operation; with room for it only once the file is removed; and with none.
func TestSaveOverAnother(t *testing.T) {
	for what, old := range olds() {
		for _, f := range []file{{called(8), old, ""}, {called(8), "", old}, {called(8), old[:len(old)/2], old[len(old)/2:]}} {
			l := append(durable(called(3), written(three)), f)
			others := len(written(three))
			for _, room := range []int{0, others + len(written(eight)) - 1, others + len(written(eight)), api.MaxDisk} {
				everyFuse(t, room, l, func(w *twins) { w.save(t, eight) })
				if t.Failed() {
					t.Fatal(what)
				}
			}
			d := newDisk(t, api.MaxDisk, l...)
			is(t, "Save", Save(d, eight), api.OK)
			d.Crash(nil)
			holds(t, d, called(3), written(three), called(8), written(eight))
			loads(t, d, eight)
		}
	}
}

// P8.1: snapshots of different indexes don't touch each other, and the order in which they are saved doesn't matter.
func TestSaveBesideOthers(t *testing.T) {
	l := []api.Snap{three, eight, nine, {Index: 10, Data: "ten"}, {Index: 1 << 40}, {Data: "zero"}}
	for _, order := range [][]int{{0, 1, 2, 3, 4, 5}, {5, 4, 3, 2, 1, 0}, {3, 0, 4, 1, 5, 2}} {
		w := newTwins(t, api.MaxDisk)
		for _, i := range order {
			w.save(t, l[i])
			w.load(t)
		}
		if len(w.got.Names()) != len(l) {
			t.Errorf("files %q", w.got.Names())
		}
		loads(t, w.got, l[4])
		w.clean(t)
		holds(t, w.got, called(1<<40), written(l[4]))
	}
}

// P8.1: no disk, and one that is down.
func TestDown(t *testing.T) {
	full := durable(called(3), written(three), called(8), written(eight), called(9), "?")
	for _, d := range []*disk.Disk{nil, failed(t), failed(t, full...)} {
		for range 2 {
			for _, s := range []api.Snap{three, eight, nine, {Index: 20}} {
				is(t, "Save", Save(d, s), api.ErrDown)
			}
			loadsNone(t, d, api.ErrDown)
			is(t, "Clean", Clean(d), api.ErrDown)
			is(t, "Save of what isn't valid", Save(d, api.Snap{Index: -1}), api.ErrArg)
		}
	}
	d := failed(t, full...)
	is(t, "Save", Save(d, nine), api.ErrDown)
	is(t, "Clean", Clean(d), api.ErrDown)
	d.Crash(nil)
	holds(t, d, called(3), written(three), called(8), written(eight), called(9), "?")
}

// P8.1: a disk that disk.New hasn't made has no room.
func TestZeroDisk(t *testing.T) {
	d := new(disk.Disk)
	loadsNone(t, d, api.OK)
	is(t, "Clean", Clean(d), api.OK)
	is(t, "Save", Save(d, three), api.ErrFull)
	holds(t, d)
}

// P8.1: each error at each operation of Save, and what stands on the disk then.
func TestErrorsOfSave(t *testing.T) {
	b, e := "broken", written(eight)
	for _, c := range []struct {
		there      bool // whether there is a file of that name
		fuse, room int
		keep       int
		want       api.Errno
		left       []string // what stands there after a crash
	}{
		{true, 0, api.MaxDisk, 0, api.ErrDown, []string{called(8), b}},                      // Remove
		{true, 1, api.MaxDisk, 0, api.ErrDown, nil},                                         // Append
		{true, 2, api.MaxDisk, 0, api.ErrDown, []string{called(8), ""}},                     // Sync
		{true, 2, api.MaxDisk, 7, api.ErrDown, []string{called(8), e[:7]}},                  // Sync
		{true, 2, api.MaxDisk, len(e), api.ErrDown, []string{called(8), e}},                 // Sync
		{true, 3, api.MaxDisk, 0, api.OK, []string{called(8), e}},                           // none
		{true, 9, 0, 0, api.ErrFull, nil},                                                   // Append
		{true, 9, len(e) - 1, 0, api.ErrFull, nil},                                          // Append
		{true, 0, 0, 0, api.ErrDown, []string{called(8), b}},                                // Remove comes ahead
		{true, 1, 0, 0, api.ErrFull, nil},                                                   // Append finds no room before the power fails
		{true, 3, len(e), 0, api.OK, []string{called(8), e}},                                // none
		{false, 0, api.MaxDisk, 0, api.ErrDown, nil},                                        // Append
		{false, 1, api.MaxDisk, 0, api.ErrDown, []string{called(8), ""}},                    // Sync
		{false, 1, api.MaxDisk, len(e) - 1, api.ErrDown, []string{called(8), e[:len(e)-1]}}, // Sync
		{false, 2, api.MaxDisk, 0, api.OK, []string{called(8), e}},                          // none
		{false, 9, len(e) - 1, 0, api.ErrFull, nil},                                         // Append
		{false, 0, 0, 0, api.ErrFull, nil},                                                  // Append
		{false, 2, len(e), 0, api.OK, []string{called(8), e}},                               // none
	} {
		d := newDisk(t, api.MaxDisk)
		if c.there {
			d = newDisk(t, api.MaxDisk, durable(called(8), b)...)
		}
		d.Fuse(c.fuse)
		d.Room(c.room)
		is(t, "Save", Save(d, eight), c.want)
		if d.Down() != (c.want == api.ErrDown) {
			t.Errorf("%+v: down: %v", c, d.Down())
		}
		d.Crash([]int{c.keep})
		holds(t, d, c.left...)
		if t.Failed() {
			t.Fatalf("%+v", c)
		}
	}
}

// P8.1: a Save that found no room is made again once there is some.
func TestSaveAgain(t *testing.T) {
	d := newDisk(t, 30, durable(called(3), written(three))...)
	is(t, "Save", Save(d, eight), api.ErrFull)
	holds(t, d, called(3), written(three))
	loads(t, d, three)
	is(t, "Room", d.Room(100), api.OK)
	is(t, "Save", Save(d, eight), api.OK)
	loads(t, d, eight)
	is(t, "Clean", Clean(d), api.OK)
	holds(t, d, called(8), written(eight))
}

// P8.1, P8.2: what Save was given, and what Load returns, share no memory with what is stored.
func TestSharesNothing(t *testing.T) {
	given := []byte("state of eight")
	d := newDisk(t, api.MaxDisk)
	is(t, "Save", Save(d, api.Snap{Index: 8, Term: 2, Data: unsafe.String(&given[0], len(given))}), api.OK)
	clear(given)
	loads(t, d, eight)
	s, _, _ := Load(d)
	data := s.Data
	// What the disk has is written over in place.
	is(t, "Cut", d.Cut(called(8), 0), api.OK)
	is(t, "Append", d.Append(called(8), strings.Repeat("?", len(written(eight)))), api.OK)
	if s != eight || data != "state of eight" {
		t.Errorf("a snapshot is changed: %q", s.Data)
	}
	d = newDisk(t, api.MaxDisk, durable(called(8), written(eight))...)
	one, _, _ := Load(d)
	clear(unsafe.Slice(unsafe.StringData(one.Data), len(one.Data)))
	loads(t, d, eight)
	is(t, "Save", Save(d, eight), api.OK)
	holds(t, d, called(8), written(eight))
}

// P8.1: disks have nothing in common.
func TestTwoDisks(t *testing.T) {
	a, b := newTwins(t, api.MaxDisk), newTwins(t, 40)
	a.save(t, three)
	loadsNone(t, b.got, api.OK)
	b.save(t, eight)
	a.load(t)
	b.save(t, nine)
	a.save(t, nine)
	b.clean(t)
	a.load(t)
	b.load(t)
	a.clean(t)
	holds(t, a.got, called(9), written(nine))
	b.load(t)
}
