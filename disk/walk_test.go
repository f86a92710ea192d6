package disk

import (
	"math"
	"slices"
	"strings"
	"testing"

	"exchequer/api"
)

// P6.1: all sequences of a few calls, against the model.
func TestShortSequences(t *testing.T) {
	calls := []call{
		appendTo("a", ""), appendTo("a", "x"), appendTo("b", "yz"), appendTo("b", "long"), appendTo("-", ""), sync("a"), sync("b"),
		cut("a", 0), cut("b", 1), cut("b", -1), remove("a"), remove("b"),
		fuse(-1), fuse(0), fuse(1), room(0), room(5), room(-1), crash(), crash(1), crash(0, -1),
	}
	most := 4
	if testing.Short() {
		most = 3
	}
	level := [][]call{nil}
	for range most {
		var next [][]call
		for _, l := range level {
			for _, c := range calls {
				next = append(next, append(slices.Clone(l), c))
			}
		}
		for _, l := range next {
			w := newTwins(t, 4)
			for _, c := range l {
				w.do(t, c)
			}
			w.do(t, crash(2)) // and what of it is durable
		}
		level = next
	}
}

// walker chooses calls.
type walker struct{ x uint32 }

// upto returns a number from 0 to n - 1.
func (w *walker) upto(n int) int {
	w.x ^= w.x << 13
	w.x ^= w.x >> 17
	w.x ^= w.x << 5
	return int(w.x>>3) % n
}

// one returns one of some.
func one[T any](w *walker, l ...T) T { return l[w.upto(len(l))] }

// file returns a name, or rarely what is none.
func (w *walker) file() string {
	if w.upto(40) == 0 {
		return one(w, "", "-a", "A", "a b", "\xff", strings.Repeat("a", 25))
	}
	return one(w, "a", "b", "c", "d", "w000000000001", "zoë", "\ufffd", strings.Repeat("a", 24))
}

// call returns a call.
func (w *walker) call() call {
	switch w.upto(20) {
	case 0, 1, 2, 3, 4, 5, 6, 7:
		return appendTo(w.file(), strings.Repeat(one(w, "x", "\x00", "é", "q"), w.upto(12)))
	case 8, 9, 10:
		return sync(w.file())
	case 11, 12, 13:
		return cut(w.file(), w.upto(14)-1)
	case 14:
		return remove(w.file())
	case 15, 16:
		return fuse(w.upto(24) - 3)
	case 17:
		return room(one(w, 0, 20, 50, 100, 100, api.MaxDisk, -1, api.MaxDisk+1))
	}
	var keep []int
	for range w.upto(5) {
		keep = append(keep, one(w, w.upto(20), -1-w.upto(20), math.MaxInt-w.upto(20), math.MinInt+w.upto(20)))
	}
	return crash(keep...)
}

// P6.1: long sequences of mixed calls, against the model.
func TestLongSequences(t *testing.T) {
	for seed := range 300 {
		r := &walker{x: uint32(seed)*2654435761 + 1}
		w := newTwins(t, 60)
		for range 300 {
			w.do(t, r.call())
		}
	}
}

// ledger is what the calls that returned OK promise of a file: what it has, and what of it is durable.
type ledger map[string]struct{ all, durable string }

// note writes down a call that returned OK.
func (l ledger) note(c call) {
	e := l[c.file]
	switch c.what {
	case "Append":
		e.all += c.b
	case "Sync":
		e.durable = e.all
	case "Cut":
		e.all = e.all[:c.n]
		e.durable = e.durable[:min(c.n, len(e.durable))]
	case "Remove":
		delete(l, c.file)
		return
	default:
		return
	}
	l[c.file] = e
}

// judge holds the files that a crash has left against what was written down, and writes down what there is now.
func (l ledger) judge(t *testing.T, d *Disk) {
	t.Helper()
	if len(d.Names()) != len(l) {
		t.Fatalf("names %+q, written down %+q", d.Names(), l)
	}
	for n, e := range l {
		b, err := d.Read(n)
		if err != api.OK || !strings.HasPrefix(b, e.durable) || !strings.HasPrefix(e.all, b) {
			t.Fatalf("%+q: %+q, %d; durable %+q of %+q", n, b, err, e.durable, e.all)
		}
		e.all, e.durable = b, b
		l[n] = e
	}
}

// P6.2: what a crash leaves is the durable bytes and a beginning of the others, and no size exceeds the greatest room so far.
func TestCrashesOfSequences(t *testing.T) {
	for seed := range 300 {
		r := &walker{x: uint32(seed)*40503 + 7}
		d, l, greatest := empty(t, 60), ledger{}, 60
		for range 300 {
			c := r.call()
			_, err := c.on(d)
			if err == api.OK {
				l.note(c)
			}
			if c.what == "Room" && err == api.OK {
				greatest = max(greatest, c.n)
			}
			if c.what == "Crash" {
				l.judge(t, d)
			}
			if n := d.Used(); n > greatest || n < 0 {
				t.Fatalf("%d bytes with room for %d", n, greatest)
			}
		}
		d.Crash([]int{r.upto(9), r.upto(9)})
		l.judge(t, d)
	}
}

// P6.2: durable bytes survive each crash, with the power on and off, whatever is kept.
func TestDurableBytes(t *testing.T) {
	for _, off := range []bool{false, true} {
		for k := range 9 {
			for _, keep := range [][]int{nil, {k}, {-k}, {k, 0}, {math.MaxInt - k, math.MinInt + k}} {
				d := filled(t)
				if off {
					d.Fuse(0)
					answers(t, d, remove("a"), api.ErrDown)
				}
				l := ledger{"a": {"xyz", "xy"}, "b": {"12", ""}, "c": {"w", "w"}, "e": {"", ""}}
				for range 3 {
					d.Crash(keep)
					l.judge(t, d)
				}
			}
		}
	}
}

// P6.1, P6.2: any calls.
func FuzzCalls(f *testing.F) {
	f.Add(uint32(1), 60, "a", "xy", 1)
	f.Add(uint32(2), 0, "-", "", -1)
	f.Fuzz(func(t *testing.T, seed uint32, size int, file, b string, n int) {
		if size < 0 || size > api.MaxDisk {
			size = 60
		}
		r, w := &walker{x: seed | 1}, newTwins(t, size)
		for range 50 {
			w.do(t, r.call())
			w.do(t, one(r, appendTo(file, b), sync(file), cut(file, n), remove(file), fuse(n), room(n), crash(n)))
		}
	})
}
