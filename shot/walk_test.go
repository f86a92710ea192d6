package shot

import (
	"math"
	"strings"
	"testing"

	"exchequer/api"
	"exchequer/disk"
)

// afterCrash crashes a disk, and tells where Load returns neither the previous snapshot (nil: there is none) nor the new one, or not the new one though this is sure; it returns whether it is the new one.
func afterCrash(t *testing.T, d *disk.Disk, keep []int, previous *api.Snap, next api.Snap, sure bool) bool {
	t.Helper()
	d.Crash(keep)
	s, ok, err := Load(d)
	switch {
	case err != api.OK:
	case ok && s == next:
		return true
	case !sure && previous == nil && !ok && s == (api.Snap{}):
		return false
	case !sure && previous != nil && ok && s == *previous:
		return false
	}
	t.Fatalf("after a crash that keeps %v: %s, %v, %v; it is sure: %v", keep, told(s), ok, err, sure)
	return false
}

// saveAndClean makes the two calls, and returns whether the snapshot is saved and whether both are done.
func saveAndClean(d *disk.Disk, s api.Snap) (saved, done bool) {
	saved = Save(d, s) == api.OK
	return saved, saved && Clean(d) == api.OK
}

// crashesOf lets the power fail at each operation of a Save of a greater index and of the Clean behind it, with each of some numbers of unsynced bytes kept, and makes both again.
func crashesOf(t *testing.T, l []file, previous *api.Snap, s api.Snap, keeps ...int) {
	t.Helper()
	for fuse, done := 0, false; !done; fuse++ {
		for _, k := range keeps {
			d := newDisk(t, api.MaxDisk, l...)
			d.Fuse(fuse)
			var saved bool
			saved, done = saveAndClean(d, s)
			afterCrash(t, d, []int{k}, previous, s, saved)
			if _, again := saveAndClean(d, s); !again {
				t.Fatal("Save and Clean aren't done after a crash")
			}
			afterCrash(t, d, nil, nil, s, true)
			if l := files(d); len(l) != 1 {
				t.Fatalf("files %q", l)
			}
		}
	}
}

// P8.2: the power fails at each operation, whatever else is on the disk, and each number of unsynced bytes is kept.
func TestCrashes(t *testing.T) {
	a, b, old := written(three), written(eight), written(api.Snap{Index: 2, Data: "two"})
	next := []api.Snap{
		{Index: 9, Term: 2}, {Index: 9, Term: 2, Data: "x"}, {Index: 10, Term: 1 << 40, Data: strings.Repeat("\x00", 300)}, {Index: 300, Data: strings.Repeat("s", 50)}, {Index: 1 << 40, Data: "last"},
	}
	for _, x := range []struct {
		files    []file
		previous *api.Snap
	}{
		{nil, nil},
		{durable(called(8), "?", "log", "x"), nil},
		{durable(called(8), b), &eight},
		{durable(called(2), old, called(3), a, called(5), "?", called(8), b), &eight},
		{durable(called(3), a, called(8), b[1:]), &three},
		{durable(called(3), a, called(9), "broken", called(10), "", called(300), "broken, too", called(1<<40), a), &three},
		{durable(called(8), b, called(9999999999999), "?", called(1<<40+1), b), &eight},
		{append(durable(called(8), b), file{"a", "x", "yz"}, file{called(4), "", "late"}, file{called(9), "d", "late"}, file{"x", "", "late"}), &eight},
	} {
		for _, s := range next {
			var keeps []int
			for k := range len(written(s)) + 1 {
				keeps = append(keeps, k)
			}
			crashesOf(t, x.files, x.previous, s, keeps...)
		}
	}
}

// P8.2: the same with the longest data.
func TestCrashesOfLongest(t *testing.T) {
	s := api.Snap{Index: 9, Term: 2, Data: strings.Repeat("four", 1<<18)}
	n := len(written(s))
	crashesOf(t, durable(called(8), written(eight)), &eight, s, 0, 1, n/2, n-1, n)
}

// P8.2: how much is kept decides which it is: the new one only if all of it is there.
func TestAllOrNothing(t *testing.T) {
	for k := range len(written(nine)) + 1 {
		d := newDisk(t, api.MaxDisk, durable(called(8), written(eight))...)
		d.Fuse(1) // the power fails at Sync
		is(t, "Save", Save(d, nine), api.ErrDown)
		if afterCrash(t, d, []int{k}, &eight, nine, false) != (k == len(written(nine))) {
			t.Errorf("with %d bytes kept", k)
		}
	}
}

// walker chooses calls.
type walker struct{ x uint32 }

// upto returns a number from 0 to n - 1.
func (r *walker) upto(n int) int {
	r.x ^= r.x << 13
	r.x ^= r.x >> 17
	r.x ^= r.x << 5
	return int(r.x>>3) % n
}

// one returns one of some.
func one[T any](r *walker, l ...T) T { return l[r.upto(len(l))] }

// data returns data of a snapshot.
func (r *walker) data() string {
	return strings.Repeat(one(r, "x", "\x00", "s", "\xff\x01"), one(r, 0, 1, r.upto(30), r.upto(1200)))
}

// snap returns a snapshot, rarely one that isn't valid.
func (r *walker) snap() api.Snap {
	s := api.Snap{Index: one(r, r.upto(6), r.upto(6), r.upto(300), 1<<40), Term: one(r, 0, r.upto(3), 1<<40), Data: r.data()}
	if r.upto(40) == 0 {
		*one(r, &s.Index, &s.Term) = one(r, -1, 1<<40+1, math.MinInt, math.MaxInt)
	}
	return s
}

// keep returns what a crash keeps.
func (r *walker) keep() []int {
	var l []int
	for range r.upto(4) {
		l = append(l, one(r, 0, r.upto(20), r.upto(2000), -1, -r.upto(99), math.MinInt))
	}
	return l
}

// harm makes a step of the disk beneath the package.
func (r *walker) harm(t *testing.T, w *twins) {
	t.Helper()
	name := one(r, called(r.upto(6)), called(r.upto(300)), called(1<<40+r.upto(3)), "s3", "other")
	if l := w.want.Names(); len(l) > 0 && r.upto(2) == 0 {
		name = one(r, l...)
	}
	s := r.snap()
	b := one(r, "", "?", written(three), written(api.Snap{Index: max(s.Index, 0), Term: max(s.Term, 0), Data: s.Data}))
	switch r.upto(4) {
	case 0, 1:
		w.by(t, appendTo(name, one(r, b, b[:r.upto(len(b)+1)])))
	case 2:
		w.by(t, one(r, removal, syncOf)(name))
	case 3:
		old, _ := w.want.Read(name)
		n := r.upto(len(old) + 1)
		w.both(t, "Cut "+name, func(d *disk.Disk) api.Errno { return d.Cut(name, n) })
	}
}

// step makes a call.
func (r *walker) step(t *testing.T, w *twins) {
	t.Helper()
	switch r.upto(16) {
	case 0, 1, 2, 3, 4:
		w.save(t, r.snap())
	case 5, 6, 7:
		w.load(t)
	case 8, 9:
		w.clean(t)
	case 10, 11, 12:
		r.harm(t, w)
	case 13:
		w.setFuse(t, r.upto(8)-1)
	case 14:
		w.setRoom(t, one(r, 0, 100, 1000, 4000, api.MaxDisk, api.MaxDisk))
	case 15:
		if s, ok := w.load(t); ok {
			w.save(t, s)
		}
	}
	if w.want.Down() && r.upto(3) == 0 {
		w.crash(t, r.keep()...)
	}
}

// P8.1: long sequences of mixed calls, against the words of the chapter.
func TestLongSequences(t *testing.T) {
	seeds := 600
	if testing.Short() {
		seeds = 100
	}
	for seed := range seeds {
		r := &walker{x: uint32(seed)*2654435761 + 1}
		w := newTwins(t, api.MaxDisk)
		for range 150 {
			r.step(t, w)
		}
		w.crash(t, r.keep()...)
		w.load(t)
	}
}

// P8.2: long sequences of snapshots with rising indexes, with a crash somewhere in each.
func TestCrashesOfLongSequences(t *testing.T) {
	seeds := 300
	if testing.Short() {
		seeds = 60
	}
	for seed := range seeds {
		r := &walker{x: uint32(seed)*40503 + 7}
		d := newDisk(t, api.MaxDisk)
		var previous *api.Snap
		index := 0
		for range 60 {
			next := api.Snap{Index: index + r.upto(4), Term: r.upto(9), Data: r.data()}
			d.Append("log", "late")
			d.Fuse(r.upto(7))
			saved, _ := saveAndClean(d, next)
			if afterCrash(t, d, r.keep(), previous, next, saved) {
				previous = &next
			}
			index = next.Index + 1
		}
	}
}

// P8.1: any bytes as the file of a snapshot.
func FuzzFile(f *testing.F) {
	f.Add(8, written(eight), 3)
	f.Add(8, written(eight)[:9], 30)
	f.Add(0, "", 0)
	f.Add(1<<40+1, summed(plain(1<<40+1)+plain(0)+plain(0)), 9)
	f.Fuzz(func(t *testing.T, index int, b string, late int) {
		if index < 0 || index > 9999999999999 || late < 0 || late > len(b) || len(b) > 1<<20 {
			return
		}
		everyFuse(t, api.MaxDisk, []file{{called(index), b[:len(b)-late], b[len(b)-late:]}, {called(2), "", "?"}}, func(w *twins) {
			w.load(t)
			w.save(t, eight)
			w.clean(t)
		})
	})
}

// P8.1: any snapshots.
func FuzzSnap(f *testing.F) {
	f.Add(3, 1, "x", uint32(1))
	f.Add(1<<40+1, -1, "", uint32(2))
	f.Fuzz(func(t *testing.T, index, term int, data string, seed uint32) {
		w, r := newTwins(t, api.MaxDisk), &walker{x: seed | 1}
		s := api.Snap{Index: index, Term: term, Data: data}
		for range 20 {
			w.save(t, s)
			w.load(t)
			r.step(t, w)
		}
	})
}
