package disk

import (
	"fmt"
	"math/big"
	"slices"
	"sort"
	"strings"
	"testing"

	"exchequer/api"
	"exchequer/name"
)

// call is a call of a method: which, of which file, with which bytes or number.
type call struct {
	what, file, b string
	n             int
	keep          []int
}

// String tells the call.
func (c call) String() string {
	switch c.what {
	case "Append":
		return fmt.Sprintf("Append(%+q, %+q)", c.file, c.b)
	case "Cut":
		return fmt.Sprintf("Cut(%+q, %d)", c.file, c.n)
	case "Fuse", "Room":
		return fmt.Sprintf("%s(%d)", c.what, c.n)
	case "Crash":
		return fmt.Sprintf("Crash(%v)", c.keep)
	}
	return fmt.Sprintf("%s(%+q)", c.what, c.file)
}

// The calls.
func appendTo(file, b string) call   { return call{what: "Append", file: file, b: b} }
func sync(file string) call          { return call{what: "Sync", file: file} }
func cut(file string, size int) call { return call{what: "Cut", file: file, n: size} }
func remove(file string) call        { return call{what: "Remove", file: file} }
func read(file string) call          { return call{what: "Read", file: file} }
func fuse(n int) call                { return call{what: "Fuse", n: n} }
func room(n int) call                { return call{what: "Room", n: n} }
func crash(keep ...int) call         { return call{what: "Crash", keep: keep} }

// on makes the call, and returns what it answers.
func (c call) on(d *Disk) (string, api.Errno) {
	switch c.what {
	case "Append":
		return "", d.Append(c.file, c.b)
	case "Sync":
		return "", d.Sync(c.file)
	case "Cut":
		return "", d.Cut(c.file, c.n)
	case "Remove":
		return "", d.Remove(c.file)
	case "Read":
		return d.Read(c.file)
	case "Fuse":
		d.Fuse(c.n)
	case "Room":
		return "", d.Room(c.n)
	case "Crash":
		d.Crash(c.keep)
	}
	return "", api.OK
}

// wantFile is a file by the words of the chapter.
type wantFile struct{ durable, late string }

// model is a disk by the words of the chapter: each call is worked out from the files alone.
type model struct {
	files    map[string]wantFile
	room     int
	fuse     int // -1: there is none
	off      bool
	greatest int // room so far
}

// modelOf returns a disk without files.
func modelOf(room int) *model {
	return &model{files: map[string]wantFile{}, room: room, fuse: -1, greatest: room}
}

// names returns those of all files, rising.
func (m *model) names() []string {
	l := []string{}
	for n := range m.files {
		l = append(l, n)
	}
	sort.Strings(l)
	return l
}

// size returns how many bytes all files have.
func (m *model) size() int {
	n := 0
	for _, f := range m.files {
		n += len(f.durable + f.late)
	}
	return n
}

// refusal returns the error that a call has while the power is on.
func (m *model) refusal(c call) api.Errno {
	f, there := m.files[c.file]
	switch {
	case c.what == "Append" && !name.Right(c.file):
		return api.ErrName
	case c.what == "Append" && m.size()+len(c.b) > m.room:
		return api.ErrFull
	case c.what != "Append" && !there:
		return api.ErrGone
	case c.what == "Cut" && (c.n < 0 || c.n > len(f.durable)+len(f.late)):
		return api.ErrArg
	}
	return api.OK
}

// on makes a call, and returns what it answers.
func (m *model) on(c call) (string, api.Errno) {
	switch c.what {
	case "Room":
		if c.n < 0 || c.n > 8388608 {
			return "", api.ErrArg
		}
		m.room = c.n
		m.greatest = max(m.greatest, c.n)
		return "", api.OK
	case "Fuse":
		m.fuse = max(c.n, -1)
		return "", api.OK
	case "Crash":
		m.crash(c.keep)
		return "", api.OK
	}
	if m.off {
		return "", api.ErrDown
	}
	if err := m.refusal(c); err != api.OK {
		return "", err
	}
	f := m.files[c.file]
	if c.what == "Read" {
		return f.durable + f.late, api.OK
	}
	if m.fuse == 0 {
		m.off = true
		return "", api.ErrDown
	}
	if m.fuse > 0 {
		m.fuse--
	}
	m.change(c, f)
	return "", api.OK
}

// change does to a file what a call does that returns OK.
func (m *model) change(c call, f wantFile) {
	switch c.what {
	case "Append":
		f.late += c.b
	case "Sync":
		f = wantFile{durable: f.durable + f.late}
	case "Cut":
		if c.n <= len(f.durable) {
			f = wantFile{durable: f.durable[:c.n]}
		} else {
			f.late = f.late[:c.n-len(f.durable)]
		}
	}
	m.files[c.file] = f
	if c.what == "Remove" {
		delete(m.files, c.file)
	}
}

// crash loses late bytes.
func (m *model) crash(keep []int) {
	i := 0
	for _, n := range m.names() {
		f := m.files[n]
		if f.late == "" {
			continue
		}
		k := 0
		if len(keep) > 0 {
			k = remainder(keep[i%len(keep)], len(f.late)+1)
		}
		m.files[n] = wantFile{durable: f.durable + f.late[:k]}
		i++
	}
	m.off, m.fuse = false, -1
}

// remainder returns k as an unsigned number of 64 bits, modulo n.
func remainder(k, n int) int {
	x := big.NewInt(int64(k))
	if k < 0 {
		x.Add(x, new(big.Int).Lsh(big.NewInt(1), 64))
	}
	return int(x.Mod(x, big.NewInt(int64(n))).Int64())
}

// twins are a disk and its model, which are given the same calls.
type twins struct {
	d    *Disk
	m    *model
	done []call
}

// newTwins returns an empty disk and its model.
func newTwins(t *testing.T, room int) *twins {
	t.Helper()
	return &twins{d: empty(t, room), m: modelOf(room)}
}

// do makes a call of both, and tells where the disk answers something else or has become another one.
func (w *twins) do(t *testing.T, c call) {
	t.Helper()
	w.done = append(w.done, c)
	wantB, wantErr := w.m.on(c)
	if b, err := c.on(w.d); b != wantB || err != wantErr {
		t.Fatalf("New(%d), %v: %+q, %d, want %+q, %d", w.m.room, w.done, b, err, wantB, wantErr)
	}
	if fault := w.fault(c); fault != "" {
		t.Fatalf("New(%d), %v: %s", w.m.room, w.done, fault)
	}
}

// fault returns in what the disk is not as its model is, "" if it is.
func (w *twins) fault(c call) string {
	d, m := w.d, w.m
	if d.Down() != m.off {
		return fmt.Sprintf("down: %v", d.Down())
	}
	wantNames, wantUsed := m.names(), m.size()
	if m.off {
		wantNames, wantUsed = nil, 0
	}
	if l := d.Names(); !slices.Equal(l, wantNames) || m.off && l != nil {
		return fmt.Sprintf("names %+q, want %+q", l, wantNames)
	}
	if n := d.Used(); n != wantUsed || n > m.greatest {
		return fmt.Sprintf("%d bytes, want %d", n, wantUsed)
	}
	for _, n := range append(m.names(), c.file) {
		wantB, wantErr := m.on(read(n))
		if b, err := d.Read(n); b != wantB || err != wantErr {
			return fmt.Sprintf("%+q: %+q, %d, want %+q, %d", n, b, err, wantB, wantErr)
		}
	}
	return ""
}

// empty returns a disk without files.
func empty(t *testing.T, room int) *Disk {
	t.Helper()
	d, err := New(room)
	if d == nil || err != api.OK {
		t.Fatalf("New(%d) = %v, %d", room, d, err)
	}
	return d
}

// filled returns a disk with room for 10 bytes that has 6: a begins with 2 durable ones of 3, b has none of 2, c one of 1, and e is empty.
func filled(t *testing.T) *Disk {
	t.Helper()
	d := empty(t, 10)
	made(t, d, appendTo("e", ""), appendTo("c", "w"), appendTo("a", "xy"), sync("a"), sync("c"), appendTo("b", "12"), appendTo("a", "z"))
	holds(t, d, "a", "xyz", "b", "12", "c", "w", "e", "")
	return d
}

// answers tells whether a call answers something else than an error.
func answers(t *testing.T, d *Disk, c call, want api.Errno) {
	t.Helper()
	if b, err := c.on(d); err != want || err != api.OK && b != "" {
		t.Errorf("%v: %+q, %d, want %d", c, b, err, want)
	}
}

// made tells whether one of some calls does not return OK.
func made(t *testing.T, d *Disk, calls ...call) {
	t.Helper()
	for _, c := range calls {
		answers(t, d, c, api.OK)
	}
}

// holds tells whether a disk, with the power on, has other files than some, given by their names, rising, and their bytes.
func holds(t *testing.T, d *Disk, files ...string) {
	t.Helper()
	var names []string
	used := 0
	for i := 0; i < len(files); i += 2 {
		names = append(names, files[i])
		used += len(files[i+1])
		if b, err := d.Read(files[i]); b != files[i+1] || err != api.OK {
			t.Errorf("Read(%+q) = %+q, %d, want %+q", files[i], b, err, files[i+1])
		}
	}
	if l := d.Names(); !slices.Equal(l, names) {
		t.Errorf("names %+q, want %+q", l, names)
	}
	if n := d.Used(); n != used {
		t.Errorf("%d bytes, want %d", n, used)
	}
	if d.Down() {
		t.Error("the disk is down")
	}
}

// isDown tells whether a disk is not as one is whose power is off.
func isDown(t *testing.T, d *Disk) {
	t.Helper()
	if !d.Down() {
		t.Error("the power is on")
	}
	if l := d.Names(); l != nil {
		t.Errorf("names %+q", l)
	}
	if n := d.Used(); n != 0 {
		t.Errorf("%d bytes", n)
	}
	for _, c := range slices.Concat(operations(), refusals(), []call{read("a"), read("x"), read(""), cut("x", -1), appendTo("A", strings.Repeat("x", 99))}) {
		answers(t, d, c, api.ErrDown)
	}
}

// operations are calls that return OK on a filled disk.
func operations() []call {
	return []call{
		appendTo("a", "k"), appendTo("a", ""), appendTo("n", "k"), appendTo("n", ""), appendTo("e", "4444"),
		sync("a"), sync("b"), sync("c"), sync("e"),
		cut("a", 0), cut("a", 1), cut("a", 2), cut("a", 3), cut("b", 1), cut("c", 0), cut("e", 0),
		remove("a"), remove("b"), remove("c"), remove("e"),
	}
}

// refusals are calls of operations that return an error on a filled disk.
func refusals() []call {
	return []call{
		appendTo("", "k"), appendTo("-a", ""), appendTo("A", "k"), appendTo("a\xff", "k"), appendTo("A", "55555"),
		appendTo("a", "55555"), appendTo("n", "55555"),
		sync("x"), sync(""), sync("A"), remove("x"), remove(""), remove("-a"),
		cut("x", 0), cut("x", -1), cut("", 9), cut("a", -1), cut("a", 4), cut("e", 1), cut("e", -1),
	}
}
