package net

import (
	"math"
	"strings"
	"testing"

	"exchequer/api"
)

// walker chooses calls.
type walker struct{ x uint32 }

// upto returns a number from 0 to n - 1.
func (r *walker) upto(n int) int {
	r.x ^= r.x << 13
	r.x ^= r.x >> 17
	r.x ^= r.x << 5
	return int(r.x>>3) % n
}

// one returns one of some.
func one[T any](r *walker, l ...T) T { return l[r.upto(len(l))] }

// end returns an endpoint, mostly one of few.
func (r *walker) end() int { return one(r, r.upto(3), r.upto(3), one(r, ends...)) }

// number returns the number of a packet, rarely of none.
func (r *walker) number(n int) int {
	if n == 0 || r.upto(12) == 0 {
		return one(r, -1, n, n+1, math.MinInt, math.MaxInt, -n, 256)
	}
	return one(r, 0, n-1, r.upto(n), r.upto(n))
}

// bytes returns bytes of a packet.
func (r *walker) bytes() string {
	return one(r, "", "a", "b", "\x00", "\xff\xfe", "é", string(rune('a'+r.upto(26))), strings.Repeat("x", r.upto(300)))
}

// step makes a call: the more of send there is, the fuller the network becomes.
func (r *walker) step(t *testing.T, w *twins, send int) {
	t.Helper()
	n := len(w.want.flight())
	switch k := r.upto(14 + send); {
	case k < 4:
		w.take(t, r.number(n))
	case k < 5:
		w.lose(t, r.number(n))
	case k < 7:
		w.double(t, r.number(n))
	case k < 9:
		w.link(t, "Cut", r.end(), r.end())
	case k < 11:
		w.link(t, "Join", r.end(), r.end())
	case k < 12 && r.upto(4) == 0:
		w.link(t, "Heal", 0, 0)
	case k < 12:
		w.all(t)
	default:
		w.send(t, r.end(), r.end(), r.bytes())
	}
}

// seeds returns how many sequences a test makes.
func seeds(n int) int {
	if testing.Short() {
		return n / 10
	}
	return n
}

// P9.1: long sequences of mixed calls, against the words of the chapter, in networks that are nearly empty and nearly full.
func TestLongSequences(t *testing.T) {
	full := 0
	for seed := range seeds(150) {
		r := &walker{x: uint32(seed)*2654435761 + 1}
		w := newTwins()
		for part := range 4 {
			for range 200 {
				r.step(t, w, (part+seed)%4*5)
			}
			w.all(t)
			if w.got.Len() == api.MaxFlight {
				full++
			}
		}
	}
	if full == 0 {
		t.Error("no network was full")
	}
}

// ledger counts how often each packet may still be received.
type ledger map[api.Packet]int

// step makes a call, and tells if a packet is received that wasn't sent and duplicated so often.
func (l ledger) step(t *testing.T, r *walker, n *Net) {
	t.Helper()
	i := r.number(n.Len())
	p := api.Packet{From: r.upto(3), To: r.upto(3), Bytes: one(r, "", "a", "b")}
	switch r.upto(10) {
	case 0, 1, 2, 3:
		if n.Send(p.From, p.To, p.Bytes) {
			l[p]++
		}
	case 4, 5:
		if p, ok := n.Look(i); n.Double(i) && ok {
			l[p]++
		}
	case 6, 7, 8:
		p, ok := n.Take(i)
		if ok {
			l[p]--
		}
		if l[p] < 0 || !ok && p != (api.Packet{}) {
			t.Fatalf("Take(%d): %+v, %v, which wasn't sent", i, p, ok)
		}
	case 9:
		one(r, n.Cut, n.Join, n.Join)(p.From, p.To)
	}
}

// P9.2: long sequences with many equal packets, in networks that are emptied in the end.
func TestNothingButWhatWasSent(t *testing.T) {
	for seed := range seeds(500) {
		r := &walker{x: uint32(seed)*40503 + 7}
		n, l := New(), ledger{}
		for range 500 {
			l.step(t, r, n)
		}
		for range n.Len() {
			i := r.upto(n.Len())
			if p, ok := n.Take(i); ok {
				l[p]--
			}
		}
		for p, left := range l {
			if left < 0 {
				t.Fatalf("%+v was received %d times more often than it was sent and duplicated", p, -left)
			}
		}
	}
}

// P9.2: what isn't lost is received just as often as it was sent and duplicated.
func TestAllThatWasSent(t *testing.T) {
	for seed := range seeds(500) {
		r := &walker{x: uint32(seed)*40503 + 7}
		n, l := New(), ledger{}
		for range 100 {
			p := api.Packet{From: r.upto(3), To: r.upto(3), Bytes: one(r, "", "a", "b")}
			if n.Send(p.From, p.To, p.Bytes) {
				l[p]++
			}
			i := r.upto(n.Len())
			if p, ok := n.Look(i); r.upto(2) == 0 && ok && n.Double(i) {
				l[p]++
			}
		}
		for range n.Len() {
			p, ok := n.Take(r.upto(n.Len()))
			if l[p]--; !ok || l[p] < 0 {
				t.Fatalf("%+v, %v: it wasn't sent", p, ok)
			}
		}
		for p, left := range l {
			if left != 0 {
				t.Fatalf("%+v didn't arrive %d times", p, left)
			}
		}
	}
}

// P9.1: any calls with any numbers and bytes.
func FuzzCalls(f *testing.F) {
	f.Add(1, 2, 0, "a", uint32(1))
	f.Add(-1, math.MaxInt, math.MinInt, "", uint32(2))
	f.Fuzz(func(t *testing.T, a, b, i int, bytes string, seed uint32) {
		w, r := newTwins(), &walker{x: seed | 1}
		for range 30 {
			w.send(t, a, b, bytes)
			w.link(t, one(r, "Cut", "Join"), one(r, a, b), one(r, a, b))
			w.double(t, one(r, i, 0))
			w.take(t, one(r, i, 0))
			w.link(t, "Join", a, i)
			r.step(t, w, 3)
		}
		w.all(t)
	})
}
