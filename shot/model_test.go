package shot

import (
	"encoding/binary"
	"fmt"
	"hash/crc32"
	"math/big"
	"regexp"
	"slices"
	"strconv"
	"strings"
	"testing"

	"exchequer/api"
	"exchequer/disk"
)

// plain returns the encoding of a number, as the words of chapter 3 say it.
func plain(n int) string {
	b := big.NewInt(int64(n)).Bytes()
	return string(append([]byte{byte(len(b))}, b...))
}

// summed returns bytes behind their checksum.
func summed(b string) string {
	return string(binary.BigEndian.AppendUint32(nil, crc32.ChecksumIEEE([]byte(b)))) + b
}

// body returns the encoding of a snapshot, valid or not.
func body(s api.Snap) string { return plain(s.Index) + plain(s.Term) + plain(len(s.Data)) + s.Data }

// written returns what the file of a snapshot contains.
func written(s api.Snap) string { return summed(body(s)) }

// called returns the name of the file of the snapshots with an index.
func called(index int) string { return fmt.Sprintf("s%013d", index) }

// right tells whether a snapshot is valid.
func right(s api.Snap) bool {
	return min(s.Index, s.Term) >= 0 && max(s.Index, s.Term) <= 1099511627776 && len(s.Data) <= 1048576
}

// number returns the number with which b begins, and what follows it.
func number(b string) (int, string, bool) {
	if b == "" || b[0] > 7 || len(b) <= int(b[0]) {
		return 0, "", false
	}
	size := 1 + int(b[0])
	return int(new(big.Int).SetBytes([]byte(b[1:size])).Int64()), b[size:], true
}

var snapshotName = regexp.MustCompile(`^s[0-9]{13}$`)

// whole returns the snapshot of a file, if this is complete: its index is taken from the name, and what is read from the bytes is taken only if it is written so.
func whole(file, b string) (api.Snap, bool) {
	if !snapshotName.MatchString(file) || len(b) < 4 {
		return api.Snap{}, false
	}
	index, _ := strconv.Atoi(file[1:])
	rest, ok := strings.CutPrefix(b[4:], plain(index))
	term, rest, more := number(rest)
	_, data, most := number(rest)
	s := api.Snap{Index: index, Term: term, Data: data}
	if !ok || !more || !most || !right(s) || written(s) != b {
		return api.Snap{}, false
	}
	return s, true
}

// step is an operation of a disk.
type step struct{ what, file, bytes string }

// The steps.
func appendTo(file, b string) step { return step{"Append", file, b} }
func syncOf(file string) step      { return step{"Sync", file, ""} }
func removal(file string) step     { return step{"Remove", file, ""} }

// on makes the step on a disk.
func (s step) on(d *disk.Disk) api.Errno {
	switch s.what {
	case "Append":
		return d.Append(s.file, s.bytes)
	case "Sync":
		return d.Sync(s.file)
	}
	return d.Remove(s.file)
}

// wantSave returns the steps that Save makes on a disk as long as none has an error, or Save's own error.
func wantSave(d *disk.Disk, s api.Snap) ([]step, api.Errno) {
	if !right(s) {
		return nil, api.ErrArg
	}
	file := called(s.Index)
	b, err := d.Read(file)
	if old, ok := whole(file, b); ok && old == s {
		return nil, api.OK
	}
	l := []step{appendTo(file, written(s)), syncOf(file)}
	if err == api.OK {
		l = slices.Insert(l, 0, removal(file))
	}
	return l, api.OK
}

// wantLoad returns what Load returns.
func wantLoad(d *disk.Disk) (newest api.Snap, found bool, err api.Errno) {
	if d.Down() {
		return newest, false, api.ErrDown
	}
	for _, file := range d.Names() {
		b, _ := d.Read(file)
		if s, ok := whole(file, b); ok && (!found || s.Index > newest.Index) {
			newest, found = s, true
		}
	}
	return newest, found, api.OK
}

// wantClean returns the steps that Clean makes on a disk as long as none has an error, or Clean's own error.
func wantClean(d *disk.Disk) ([]step, api.Errno) {
	newest, found, err := wantLoad(d)
	var l []step
	for _, file := range d.Names() {
		if snapshotName.MatchString(file) && !(found && file == called(newest.Index)) {
			l = append(l, removal(file))
		}
	}
	return l, err
}

// file is a file of a disk: its durable bytes, and those that aren't synced.
type file struct{ name, durable, late string }

// newDisk returns a disk with files.
func newDisk(t *testing.T, room int, l ...file) *disk.Disk {
	t.Helper()
	d, err := disk.New(api.MaxDisk)
	is(t, "New", err, api.OK)
	for _, f := range l {
		is(t, "Append to "+f.name, d.Append(f.name, f.durable), api.OK)
		is(t, "Sync", d.Sync(f.name), api.OK)
		is(t, "Append", d.Append(f.name, f.late), api.OK)
	}
	is(t, "Room", d.Room(room), api.OK)
	return d
}

// durable returns files of which all bytes are durable, from their names and bytes in turn.
func durable(list ...string) []file {
	var l []file
	for i := 0; i < len(list); i += 2 {
		l = append(l, file{list[i], list[i+1], ""})
	}
	return l
}

// used returns how many bytes files have.
func used(l []file) int {
	n := 0
	for _, f := range l {
		n += len(f.durable) + len(f.late)
	}
	return n
}

// twins are two disks: one for the package, and one on which the steps are made that the words of the chapter ask for.
type twins struct {
	got, want *disk.Disk
	said      []string
}

// newTwins returns two disks with the same files.
func newTwins(t *testing.T, room int, l ...file) *twins {
	t.Helper()
	return &twins{got: newDisk(t, room, l...), want: newDisk(t, room, l...)}
}

// steps makes steps on the disk of the words until one has an error.
func (w *twins) steps(l []step) api.Errno {
	for _, s := range l {
		if err := s.on(w.want); err != api.OK {
			return err
		}
	}
	return api.OK
}

// judge tells where an answer or a disk isn't as it should be.
func (w *twins) judge(t *testing.T, what string, got, want api.Errno) {
	t.Helper()
	w.said = append(w.said, what)
	if got != want {
		t.Fatalf("%q: %v, want %v", w.said, got, want)
	}
	if w.got.Down() != w.want.Down() || !slices.Equal(w.got.Names(), w.want.Names()) {
		t.Fatalf("%q: files %q, down: %v; want %q, %v", w.said, w.got.Names(), w.got.Down(), w.want.Names(), w.want.Down())
	}
	for _, n := range w.want.Names() {
		a, _ := w.got.Read(n)
		if b, _ := w.want.Read(n); a != b {
			t.Fatalf("%q: %s has %d bytes %.60x, want %d bytes %.60x", w.said, n, len(a), a, len(b), b)
		}
	}
}

// save calls Save.
func (w *twins) save(t *testing.T, s api.Snap) {
	t.Helper()
	l, want := wantSave(w.want, s)
	if want == api.OK {
		want = w.steps(l)
	}
	w.judge(t, "Save "+told(s), Save(w.got, s), want)
}

// load calls Load.
func (w *twins) load(t *testing.T) (api.Snap, bool) {
	t.Helper()
	want, wantFound, wantErr := wantLoad(w.want)
	s, found, err := Load(w.got)
	if s != want || found != wantFound {
		t.Fatalf("%q: Load: %s, %v; want %s, %v", w.said, told(s), found, told(want), wantFound)
	}
	w.judge(t, "Load", err, wantErr)
	return s, found
}

// clean calls Clean.
func (w *twins) clean(t *testing.T) {
	t.Helper()
	l, want := wantClean(w.want)
	if want == api.OK {
		want = w.steps(l)
	}
	w.judge(t, "Clean", Clean(w.got), want)
}

// both does something with both disks.
func (w *twins) both(t *testing.T, what string, do func(d *disk.Disk) api.Errno) {
	t.Helper()
	want := do(w.want)
	w.judge(t, what, do(w.got), want)
}

// by makes a step of the disk beneath the package.
func (w *twins) by(t *testing.T, s step) {
	t.Helper()
	w.both(t, fmt.Sprintf("%s(%s, %d bytes)", s.what, s.file, len(s.bytes)), s.on)
}

// setFuse sets the fuse.
func (w *twins) setFuse(t *testing.T, n int) {
	t.Helper()
	w.both(t, fmt.Sprint("Fuse ", n), func(d *disk.Disk) api.Errno { d.Fuse(n); return api.OK })
}

// setRoom changes the room.
func (w *twins) setRoom(t *testing.T, n int) {
	t.Helper()
	w.both(t, fmt.Sprint("Room ", n), func(d *disk.Disk) api.Errno { return d.Room(n) })
}

// crash lets the power fail and come back.
func (w *twins) crash(t *testing.T, keep ...int) {
	t.Helper()
	w.both(t, fmt.Sprint("Crash ", keep), func(d *disk.Disk) api.Errno { d.Crash(keep); return api.OK })
}

// everyFuse makes calls with each fuse at which the power fails, and with one at which it just doesn't, and then a crash that keeps this or that: so each operation is seen, and which bytes are durable behind it.
func everyFuse(t *testing.T, room int, l []file, calls func(w *twins)) {
	t.Helper()
	for fuse, done := 0, false; !done; fuse++ {
		for _, keep := range [][]int{nil, {1}, {5, 0}, {12}, {-1}, {17, 3, 11}} {
			w := newTwins(t, room, l...)
			w.setFuse(t, fuse)
			calls(w)
			done = !w.want.Down()
			w.crash(t, keep...)
			w.load(t)
			w.clean(t)
			w.load(t)
		}
	}
}

// told tells a snapshot in short.
func told(s api.Snap) string { return fmt.Sprintf("{%d %d +%d}", s.Index, s.Term, len(s.Data)) }
