package wal

import (
	"encoding/binary"
	"fmt"
	"hash/crc32"
	"maps"
	"math/big"
	"regexp"
	"slices"
	"strings"
	"testing"

	"exchequer/api"
	"exchequer/disk"
)

// content is what a file has: its bytes, and how many of the first are durable.
type content struct {
	bytes   string
	durable int
}

// files are those of a disk.
type files map[string]content

// step is an operation of a disk.
type step struct {
	what, file, bytes string
	size              int
}

// The steps.
func appendTo(file, b string) step   { return step{what: "Append", file: file, bytes: b} }
func syncOf(file string) step        { return step{what: "Sync", file: file} }
func cutOf(file string, at int) step { return step{what: "Cut", file: file, size: at} }
func removal(file string) step       { return step{what: "Remove", file: file} }

// String tells the step.
func (s step) String() string {
	return fmt.Sprintf("%s(%s, %d bytes, %d)", s.what, s.file, len(s.bytes), s.size)
}

// on makes the step on a disk.
func (s step) on(d *disk.Disk) api.Errno {
	switch s.what {
	case "Append":
		return d.Append(s.file, s.bytes)
	case "Sync":
		return d.Sync(s.file)
	case "Cut":
		return d.Cut(s.file, s.size)
	}
	return d.Remove(s.file)
}

// names returns those of all files, rising.
func (f files) names() []string { return slices.Sorted(maps.Keys(f)) }

// used returns how many bytes all files have.
func (f files) used() int {
	n := 0
	for _, c := range f {
		n += len(c.bytes)
	}
	return n
}

// refusal returns the error of a step on a disk with room for some bytes and with the power on.
func (f files) refusal(s step, room int) api.Errno {
	_, there := f[s.file]
	switch {
	case s.what == "Append" && f.used()+len(s.bytes) > room:
		return api.ErrFull
	case s.what != "Append" && !there:
		return api.ErrGone
	}
	return api.OK
}

// make changes the files as a step does.
func (f files) make(s step) {
	c := f[s.file]
	switch s.what {
	case "Append":
		c.bytes += s.bytes
	case "Sync":
		c.durable = len(c.bytes)
	case "Cut":
		c = content{c.bytes[:s.size], min(c.durable, s.size)}
	}
	f[s.file] = c
	if s.what == "Remove" {
		delete(f, s.file)
	}
}

// late returns how many bytes of the files aren't durable, file by file, without those that have none: what a crash keeps all with.
func (f files) late() []int {
	var l []int
	for _, n := range f.names() {
		if c := f[n]; len(c.bytes) > c.durable {
			l = append(l, len(c.bytes)-c.durable)
		}
	}
	return l
}

// crash loses what isn't durable, but for what keep says.
func (f files) crash(keep []int) {
	i := 0
	for _, n := range f.names() {
		c := f[n]
		late := len(c.bytes) - c.durable
		if late == 0 {
			continue
		}
		k := 0
		if len(keep) > 0 {
			k = int(uint64(keep[i%len(keep)]) % uint64(late+1))
		}
		f[n] = content{c.bytes[:c.durable+k], c.durable + k}
		i++
	}
}

// disk returns a disk with the files.
func (f files) disk(t *testing.T, room int) *disk.Disk {
	t.Helper()
	d, err := disk.New(api.MaxDisk)
	for n, c := range f {
		for _, s := range []step{appendTo(n, c.bytes[:c.durable]), syncOf(n), appendTo(n, c.bytes[c.durable:])} {
			if e := s.on(d); e != api.OK {
				err = e
			}
		}
	}
	if e := d.Room(room); e != api.OK || err != api.OK {
		t.Fatalf("a disk with %q: %v, %v", f.names(), err, e)
	}
	return d
}

// holds tells whether a disk whose power is on has other files.
func (f files) holds(t *testing.T, d *disk.Disk) {
	t.Helper()
	if l := d.Names(); !slices.Equal(l, f.names()) {
		t.Fatalf("files %q, want %q", l, f.names())
	}
	for n, c := range f {
		if b, err := d.Read(n); b != c.bytes || err != api.OK {
			t.Fatalf("%s: %d bytes %x (%v), want %d bytes %x", n, len(b), b, err, len(c.bytes), c.bytes)
		}
	}
}

// durable returns the files with all their bytes durable.
func durable(list ...string) files {
	f := files{}
	for i := 0; i < len(list); i += 2 {
		f[list[i]] = content{list[i+1], len(list[i+1])}
	}
	return f
}

// plain returns the encoding of a number, as the words of chapter 3 say it.
func plain(n int) string {
	b := big.NewInt(int64(n)).Bytes()
	return string(append([]byte{byte(len(b))}, b...))
}

// enclosed returns the frame of a payload.
func enclosed(payload string) string {
	b := binary.BigEndian.AppendUint32(nil, uint32(len(payload)))
	b = binary.BigEndian.AppendUint32(b, crc32.ChecksumIEEE([]byte(payload)))
	return string(b) + payload
}

// plainPayload returns the payload of a record.
func plainPayload(r api.Record) string {
	return plain(r.Kind) + plain(r.Index) + plain(r.Term) + plain(r.Vote) + plain(len(r.Data)) + r.Data
}

// frames returns the frames of records, one after another.
func frames(l ...api.Record) string {
	s := ""
	for _, r := range l {
		s += enclosed(plainPayload(r))
	}
	return s
}

// head returns a header.
func head(count int) string { return frames(api.Record{Kind: api.RecStart, Index: count}) }

// numbered returns the name of the segment n.
func numbered(n int) string { return fmt.Sprintf("w%012d", n) }

// right tells whether a record is valid.
func right(r api.Record) bool {
	for _, n := range []int{r.Index, r.Term, r.Vote} {
		if n < 0 || n > 1099511627776 {
			return false
		}
	}
	return slices.Contains([]int{api.RecHard, api.RecEntry, api.RecBase}, r.Kind) && len(r.Data) <= 131072
}

// allRight tells whether all records are valid.
func allRight(l []api.Record) bool {
	return len(slices.DeleteFunc(slices.Clone(l), right)) == 0
}

// first returns the record that s begins with the frame of, and what follows it; whatever is read is taken only if it is written so.
func first(s string) (r api.Record, rest string, ok bool) {
	if len(s) < 8 {
		return r, s, false
	}
	p := s[8:]
	var l [5]int
	for i := range l {
		if p == "" || int(p[0]) > 8 || len(p) <= int(p[0]) {
			return r, s, false
		}
		size := int(p[0])
		l[i] = int(new(big.Int).SetBytes([]byte(p[1 : 1+size])).Int64())
		p = p[1+size:]
	}
	if slices.Min(l[:]) < 0 || l[4] > len(p) {
		return r, s, false
	}
	r = api.Record{Kind: l[0], Index: l[1], Term: l[2], Vote: l[3], Data: p[:l[4]]}
	rest, ok = strings.CutPrefix(s, frames(r))
	return r, rest, ok && len(plainPayload(r)) <= 262144
}

// scan returns the valid records with whose frames s begins, most of them, and what follows.
func scan(s string, most int) ([]api.Record, string) {
	var l []api.Record
	for len(l) < most {
		r, rest, ok := first(s)
		if !ok || !right(r) {
			break
		}
		l, s = append(l, r), rest
	}
	return l, s
}

// whole tells whether a segment starts with a complete beginning, and returns what follows the header.
func whole(s string) (string, bool) {
	r, rest, ok := first(s)
	if !ok || r.Kind != api.RecStart || s[:len(s)-len(rest)] != head(r.Index) {
		return "", false
	}
	l, _ := scan(rest, r.Index)
	return rest, len(l) == r.Index
}

// log is a log by the words of the chapter: its first and its last segment (0: it has none), and the bytes of the last.
type log struct {
	open              bool
	first, last, size int
}

var segmentName = regexp.MustCompile(`^w[0-9]{12}$`)

// numbers returns those of the segments, rising.
func (f files) numbers() []int {
	var l []int
	for _, n := range f.names() {
		k := 0
		if segmentName.MatchString(n) {
			fmt.Sscanf(n[1:], "%d", &k)
		}
		if k > 0 {
			l = append(l, k)
		}
	}
	return l
}

// wantOpen returns which log Open returns, with which records, and which steps it makes, as long as the disk has no error.
func (f files) wantOpen() (log, []api.Record, []step) {
	from := 0
	for _, n := range f.numbers() {
		if _, ok := whole(f[numbered(n)].bytes); ok {
			from = n
		}
	}
	var steps []step
	for _, n := range f.numbers() {
		if n < from || from == 0 {
			steps = append(steps, removal(numbered(n)))
		}
	}
	w := log{open: true}
	if from == 0 {
		return w, nil, steps
	}
	var l []api.Record
	w.first = from
	for n := from; w.last == 0; n++ {
		s := f[numbered(n)].bytes
		rest := s
		if n == from {
			rest, _ = whole(s)
		}
		some, rest := scan(rest, len(s))
		l = append(l, some...)
		w.size = len(s) - len(rest)
		if rest != "" {
			steps = append(steps, cutOf(numbered(n), w.size))
		}
		if rest != "" || !slices.Contains(f.numbers(), n+1) {
			w.last = n
		}
	}
	for _, n := range f.numbers() {
		if n > w.last {
			steps = append(steps, removal(numbered(n)))
		}
	}
	return w, l, steps
}

// wantStart returns what Start makes of a log, as long as the disk has no error: the steps, or its own error.
func (w log) wantStart(l []api.Record) (log, []step, api.Errno) {
	switch {
	case !w.open:
		return w, nil, api.ErrDown
	case !allRight(l):
		return w, nil, api.ErrArg
	case w.last == 999999999999:
		return w, nil, api.ErrLong
	}
	b := head(len(l)) + frames(l...)
	steps := []step{appendTo(numbered(w.last+1), b), syncOf(numbered(w.last + 1))}
	for n := w.first; n > 0 && n <= w.last; n++ {
		steps = append(steps, removal(numbered(n)))
	}
	return log{true, w.last + 1, w.last + 1, len(b)}, steps, api.OK
}

// wantAppend returns what Append makes of a log.
func (w log) wantAppend(l []api.Record) (log, []step, api.Errno) {
	switch {
	case !w.open:
		return w, nil, api.ErrDown
	case !allRight(l) || w.last == 0:
		return w, nil, api.ErrArg
	case len(l) == 0:
		return w, nil, api.OK
	}
	b := frames(l...)
	if w.size < 2048 {
		return log{true, w.first, w.last, w.size + len(b)}, []step{appendTo(numbered(w.last), b)}, api.OK
	}
	if w.last == 999999999999 {
		return w, nil, api.ErrLong
	}
	return log{true, w.first, w.last + 1, len(b)}, []step{syncOf(numbered(w.last)), appendTo(numbered(w.last+1), b)}, api.OK
}

// wantSync returns what Sync makes of a log.
func (w log) wantSync() (log, []step, api.Errno) {
	switch {
	case !w.open:
		return w, nil, api.ErrDown
	case w.last == 0:
		return w, nil, api.OK
	}
	return w, []step{syncOf(numbered(w.last))}, api.OK
}

// wantSegments returns how many segments a log has.
func (w log) wantSegments() int {
	if !w.open || w.last == 0 {
		return 0
	}
	return w.last - w.first + 1
}

// twins are a disk with its log, and what the words of the chapter make of them.
type twins struct {
	d    *disk.Disk
	w    *Wal
	f    files
	log  log
	room int
	fuse int // -1: there is none
	off  bool
	said []string
}

// newTwins returns a disk with files, of which no log is open.
func newTwins(t *testing.T, f files, room int) *twins {
	t.Helper()
	w := &twins{d: f.disk(t, room), f: files{}, room: room, fuse: -1}
	maps.Copy(w.f, f)
	return w
}

// opened returns a disk with files whose log is open.
func opened(t *testing.T, f files, room int) *twins {
	t.Helper()
	w := newTwins(t, f, room)
	w.open(t)
	if w.w == nil {
		t.Fatalf("a log of %q isn't opened", f.names())
	}
	return w
}

// steps makes steps of the files until one has an error.
func (w *twins) steps(l []step) api.Errno {
	for _, s := range l {
		if w.off {
			return api.ErrDown
		}
		if err := w.f.refusal(s, w.room); err != api.OK {
			return err
		}
		if w.fuse == 0 {
			w.off = true
			return api.ErrDown
		}
		if w.fuse > 0 {
			w.fuse--
		}
		w.f.make(s)
	}
	return api.OK
}

// judge tells where an answer or the disk isn't as it should be.
func (w *twins) judge(t *testing.T, what string, got, want api.Errno) {
	t.Helper()
	w.said = append(w.said, what)
	if got != want {
		t.Fatalf("%q: %v, want %v", w.said, got, want)
	}
	if n := w.w.Segments(); n != w.log.wantSegments() {
		t.Fatalf("%q: %d segments, want %d", w.said, n, w.log.wantSegments())
	}
	if w.d.Down() != w.off {
		t.Fatalf("%q: down: %v", w.said, w.d.Down())
	}
	if !w.off {
		w.f.holds(t, w.d)
		if t.Failed() {
			t.Fatalf("%q", w.said)
		}
	}
}

// open opens the log, and returns its records.
func (w *twins) open(t *testing.T) []api.Record {
	t.Helper()
	want := api.ErrDown
	var wantLog log
	var wantRecords []api.Record
	if !w.off {
		var steps []step
		wantLog, wantRecords, steps = w.f.wantOpen()
		want = w.steps(steps)
	}
	if want != api.OK {
		wantLog, wantRecords = log{}, nil
	}
	got, l, err := Open(w.d)
	if (got != nil) != wantLog.open || !slices.Equal(l, wantRecords) || err != api.OK && l != nil {
		t.Fatalf("%q, Open: %v, %v; want records %v", w.said, got, l, wantRecords)
	}
	w.w, w.log = got, wantLog
	w.judge(t, "Open", err, want)
	return l
}

// called holds an answer of a method against what it should be.
func (w *twins) called(t *testing.T, what string, err api.Errno, next log, steps []step, want api.Errno) {
	t.Helper()
	if want == api.OK {
		switch want = w.steps(steps); want {
		case api.OK:
			w.log = next
		case api.ErrFull:
		default:
			w.log = log{}
		}
	}
	w.judge(t, what, err, want)
}

// start calls Start.
func (w *twins) start(t *testing.T, l ...api.Record) {
	t.Helper()
	next, steps, want := w.log.wantStart(l)
	w.called(t, "Start "+told(l), w.w.Start(l...), next, steps, want)
}

// append calls Append.
func (w *twins) append(t *testing.T, l ...api.Record) {
	t.Helper()
	next, steps, want := w.log.wantAppend(l)
	w.called(t, "Append "+told(l), w.w.Append(l...), next, steps, want)
}

// sync calls Sync.
func (w *twins) sync(t *testing.T) {
	t.Helper()
	next, steps, want := w.log.wantSync()
	w.called(t, "Sync", w.w.Sync(), next, steps, want)
}

// setFuse sets the fuse.
func (w *twins) setFuse(n int) {
	w.d.Fuse(n)
	w.fuse = max(n, -1)
	w.said = append(w.said, fmt.Sprint("Fuse ", n))
}

// setRoom changes the room.
func (w *twins) setRoom(n int) {
	w.d.Room(n)
	w.room = n
	w.said = append(w.said, fmt.Sprint("Room ", n))
}

// crash lets the power fail and come back.
func (w *twins) crash(t *testing.T, keep ...int) {
	t.Helper()
	w.d.Crash(keep)
	w.f.crash(keep)
	w.off, w.fuse = false, -1
	w.judge(t, fmt.Sprint("Crash ", keep), api.OK, api.OK)
}

// by makes a step of the disk beneath the log.
func (w *twins) by(t *testing.T, s step) {
	t.Helper()
	want := w.steps([]step{s})
	w.judge(t, s.String(), s.on(w.d), want)
}

// told tells records in short.
func told(l []api.Record) string {
	s := ""
	for _, r := range l {
		s += fmt.Sprintf("[%d %d %d %d +%d]", r.Kind, r.Index, r.Term, r.Vote, len(r.Data))
	}
	return s
}
