package wal

import (
	"fmt"
	"math"
	"slices"
	"strings"
	"testing"

	"exchequer/api"
	"exchequer/disk"
)

// walker chooses calls.
type walker struct{ x uint32 }

// upto returns a number from 0 to n - 1.
func (r *walker) upto(n int) int {
	r.x ^= r.x << 13
	r.x ^= r.x >> 17
	r.x ^= r.x << 5
	return int(r.x>>3) % n
}

// one returns one of some.
func one[T any](r *walker, l ...T) T { return l[r.upto(len(l))] }

// record returns a record, rarely one that isn't valid.
func (r *walker) record() api.Record {
	c := api.Record{
		Kind:  one(r, api.RecHard, api.RecEntry, api.RecBase),
		Index: one(r, 0, r.upto(1000), 1<<40),
		Term:  one(r, 0, r.upto(9)),
		Vote:  r.upto(8),
		Data:  strings.Repeat(one(r, "x", "\x00", "w", "\xff\x01"), one(r, 0, r.upto(30), r.upto(1200), 2100)),
	}
	if r.upto(60) == 0 {
		*one(r, &c.Kind, &c.Index, &c.Term, &c.Vote) = one(r, -1, 1<<40+1, math.MaxInt)
	}
	return c
}

// records returns some.
func (r *walker) records() []api.Record {
	var l []api.Record
	for range r.upto(4) {
		l = append(l, r.record())
	}
	return l
}

// keep returns what a crash keeps.
func (r *walker) keep() []int {
	var l []int
	for range r.upto(4) {
		l = append(l, one(r, 0, r.upto(100), r.upto(5000), -1, -r.upto(99), math.MinInt))
	}
	return l
}

// harm makes a step of the disk beneath the log.
func (r *walker) harm(t *testing.T, w *twins) {
	if w.off {
		return
	}
	file := one(r, "other", numbered(1+r.upto(9)))
	if l := w.f.names(); len(l) > 0 && r.upto(5) > 0 {
		file = one(r, l...)
	}
	switch r.upto(4) {
	case 0:
		w.by(t, removal(file))
	case 1:
		w.by(t, appendTo(file, one(r, "", "?", head(0), head(1), frames(hard), frames(hard)[:9])))
	case 2:
		if c, ok := w.f[file]; ok {
			w.by(t, cutOf(file, r.upto(len(c.bytes)+1)))
		}
	case 3:
		w.by(t, appendTo(numbered(max(w.log.last, 1)+r.upto(4)), parts()[r.upto(len(parts()))]))
	}
}

// step makes a call.
func (r *walker) step(t *testing.T, w *twins) {
	switch r.upto(16) {
	case 0, 1:
		w.start(t, r.records()...)
	case 2, 3, 4, 5, 6:
		w.append(t, r.records()...)
	case 7, 8:
		w.sync(t)
	case 9, 10, 11:
		w.open(t)
	case 12:
		w.setFuse(r.upto(9) - 1)
	case 13:
		w.setRoom(one(r, 0, 500, 3000, 9000, api.MaxDisk, api.MaxDisk))
	case 14:
		r.harm(t, w)
	case 15:
		w.crash(t, r.keep()...)
		w.open(t)
	}
}

// P7.1: long sequences of mixed calls, against the model.
func TestLongSequences(t *testing.T) {
	seeds := 300
	if testing.Short() {
		seeds = 60
	}
	for seed := range seeds {
		r := &walker{x: uint32(seed)*2654435761 + 1}
		w := newTwins(t, nil, api.MaxDisk)
		for range 120 {
			r.step(t, w)
		}
	}
}

// ledger is what the calls of a log promise of its records: those written since the last completed Start, how many of them are sure to be there after a crash, and those of a Start in progress.
type ledger struct {
	d        *disk.Disk
	w        *Wal
	written  []api.Record
	sure     int
	starting bool
	started  []api.Record
	calls    []string
}

// newLedger returns that of an empty disk.
func newLedger(t *testing.T) *ledger {
	t.Helper()
	d, w := empty(t)
	return &ledger{d: d, w: w}
}

// call makes a call and writes down what it promises; it tells whether the power is on.
func (g *ledger) call(t *testing.T, what string, l ...api.Record) bool {
	t.Helper()
	var err api.Errno
	g.calls = append(g.calls, what+told(l))
	switch what {
	case "Start":
		if err = g.w.Start(l...); err == api.OK {
			g.written, g.sure = slices.Clone(l), len(l)
		} else if err == api.ErrDown {
			g.starting, g.started = true, l
		}
	case "Append":
		if err = g.w.Append(l...); err == api.OK {
			g.written = append(g.written, l...)
		}
	case "Sync":
		if err = g.w.Sync(); err == api.OK {
			g.sure = len(g.written)
		}
	case "Open":
		var got []api.Record
		if g.w, got, err = Open(g.d); err == api.OK && !slices.Equal(got, g.written) {
			t.Fatalf("%q: opened without a crash: %s, want %s", g.calls, told(got), told(g.written))
		}
	}
	if err != api.OK && err != api.ErrDown && err != api.ErrArg {
		t.Fatalf("%q: %v", g.calls, err)
	}
	return !g.d.Down()
}

// crash crashes the disk, opens the log (with a power that may fail at it, and once more then), and holds its records against what was promised.
func (g *ledger) crash(t *testing.T, fuse int, keep ...int) {
	t.Helper()
	g.calls = append(g.calls, fmt.Sprint("Crash", fuse, keep))
	g.d.Crash(keep)
	g.d.Fuse(fuse)
	w, l, err := Open(g.d)
	for err == api.ErrDown {
		g.d.Crash(keep)
		w, l, err = Open(g.d)
	}
	g.d.Fuse(-1)
	prefix := len(l) >= g.sure && len(l) <= len(g.written) && slices.Equal(l, g.written[:len(l)])
	if err != api.OK || !prefix && !(g.starting && slices.Equal(l, g.started)) {
		t.Fatalf("%q: %v, records %s; written %s, of which %d are sure; started %v %s", g.calls, err, told(l), told(g.written), g.sure, g.starting, told(g.started))
	}
	g.w, g.written, g.sure, g.starting = w, slices.Clone(l), len(l), false
}

// P7.2, P7.3: all sequences of a few calls, with a crash at each of their operations.
func TestCrashesOfSequences(t *testing.T) {
	big := sized(t, 2048)
	type call struct {
		what string
		l    []api.Record
	}
	calls := []call{
		{"Start", nil}, {"Start", []api.Record{entry(1, "s"), hard}}, {"Append", []api.Record{entry(2, "a")}}, {"Append", []api.Record{entry(3, "b"), big}}, {"Sync", nil}, {"Open", nil},
	}
	most := 4
	if testing.Short() {
		most = 3
	}
	made := 1
	for range most {
		made *= len(calls)
	}
	for n := range made {
		for fuse, done := 0, false; !done; fuse++ {
			for _, keep := range [][]int{nil, {1 << 20}, {15}, {17}, {3, 2063}, {2080, 0}, {16, 15}} {
				g := newLedger(t)
				g.call(t, "Start", hard)
				g.call(t, "Append", entry(9, "z"))
				g.d.Fuse(fuse)
				k, on := n, true
				for range most {
					c := calls[k%len(calls)]
					k /= len(calls)
					if on = g.call(t, c.what, c.l...); !on {
						break
					}
				}
				done = done || on
				g.crash(t, fuse%3, keep...)
				g.call(t, "Append", entry(8, "y"))
				g.call(t, "Sync")
				g.crash(t, -1, keep...)
			}
		}
	}
}

// P7.2, P7.3: long sequences of calls and crashes.
func TestCrashesOfLongSequences(t *testing.T) {
	seeds := 300
	if testing.Short() {
		seeds = 60
	}
	for seed := range seeds {
		r := &walker{x: uint32(seed)*40503 + 7}
		g := newLedger(t)
		for range 40 {
			g.d.Fuse(r.upto(14))
			for on := true; on; {
				on = g.call(t, one(r, "Start", "Append", "Append", "Append", "Append", "Sync", "Open"), r.records()...)
			}
			g.crash(t, r.upto(6)-1, r.keep()...)
		}
	}
}

// P7.1: any bytes as segments.
func FuzzSegments(f *testing.F) {
	f.Add(head(1)+frames(hard), frames(entry(1, "a")), "", 2)
	f.Add(head(1), head(0)+"?", frames(hard)[:9], 3)
	f.Fuzz(func(t *testing.T, a, b, c string, n int) {
		if n < 1 || n > 999999999999 || len(a)+len(b)+len(c) > 1<<20 {
			return
		}
		everyCrash(t, durable(numbered(1), a, numbered(2), b, numbered(n), c), api.MaxDisk, false, func(w *twins) { w.open(t) })
	})
}

// P7.1: any records.
func FuzzRecords(f *testing.F) {
	f.Add(2, 0, 3, 2, "", uint32(1))
	f.Add(3, 300, 4, 0, "put", uint32(2))
	f.Fuzz(func(t *testing.T, kind, index, term, vote int, data string, seed uint32) {
		w, r := opened(t, nil, api.MaxDisk), &walker{x: seed | 1}
		c := api.Record{Kind: kind, Index: index, Term: term, Vote: vote, Data: data}
		w.start(t, hard)
		for range 20 {
			w.start(t, c)
			w.append(t, hard, c)
			r.step(t, w)
			w.append(t, c)
		}
	})
}
