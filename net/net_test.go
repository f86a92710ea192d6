package net

import (
	"fmt"
	"math"
	"slices"
	"strings"
	"testing"

	"exchequer/api"
)

// packet returns a packet.
func packet(from, to int, bytes string) api.Packet {
	return api.Packet{From: from, To: to, Bytes: bytes}
}

// numbered returns a network with n packets from 1 to 2, whose bytes are their numbers.
func numbered(t *testing.T, n int) *Net {
	t.Helper()
	w := New()
	for i := range n {
		if !w.Send(1, 2, fmt.Sprint(i)) {
			t.Fatalf("Send %d", i)
		}
	}
	return w
}

// holds tells where a network has other packets in flight than those with these bytes.
func holds(t *testing.T, n *Net, want ...string) {
	t.Helper()
	var l []string
	for i := range n.Len() {
		p, ok := n.Look(i)
		if !ok {
			t.Errorf("no packet %d of %d", i, n.Len())
		}
		l = append(l, p.Bytes)
	}
	if !slices.Equal(l, want) {
		t.Errorf("in flight: %q, want %q", l, want)
	}
}

// counts tells where a network has other numbers of packets in flight, sent and received.
func counts(t *testing.T, n *Net, flight, sent, came int) {
	t.Helper()
	if got, want := [3]int{n.Len(), n.Sent(), n.Came()}, [3]int{flight, sent, came}; got != want {
		t.Errorf("Len, Sent, Came: %v, want %v", got, want)
	}
}

// takes tells where Take doesn't return a packet.
func takes(t *testing.T, n *Net, i int, want api.Packet) {
	t.Helper()
	if p, ok := n.Take(i); p != want || !ok {
		t.Errorf("Take(%d): %+v, %v; want %+v", i, p, ok, want)
	}
}

// takesNone tells where Take returns a packet.
func takesNone(t *testing.T, n *Net, i int) {
	t.Helper()
	if p, ok := n.Take(i); p != (api.Packet{}) || ok {
		t.Errorf("Take(%d): %+v, %v; want none", i, p, ok)
	}
}

// cut tells where a link isn't cut or intact, as it should be, in one of the directions.
func cut(t *testing.T, n *Net, a, b int, want bool) {
	t.Helper()
	if n.IsCut(a, b) != want || n.IsCut(b, a) != want {
		t.Errorf("IsCut(%d, %d): %v, IsCut(%d, %d): %v; want %v", a, b, n.IsCut(a, b), b, a, n.IsCut(b, a), want)
	}
}

// P9.1: the example of the chapter.
func TestExample(t *testing.T) {
	n := New()
	counts(t, n, 0, 0, 0)
	if !n.Send(1, 2, "a") || !n.Send(2, 1, "b") || !n.Double(0) {
		t.Error("Send, Send, Double: not all are true")
	}
	holds(t, n, "a", "b", "a")
	takes(t, n, 1, packet(2, 1, "b"))
	holds(t, n, "a", "a")
	counts(t, n, 2, 2, 1)
	takes(t, n, 1, packet(1, 2, "a"))
	takes(t, n, 0, packet(1, 2, "a"))
	counts(t, n, 0, 2, 3)
}

// P9.1: at MaxFlight packets, the next one is lost, and it isn't counted; behind a Take, a Lose and a Take over a cut link there is room for one.
func TestFull(t *testing.T) {
	n := numbered(t, 255)
	counts(t, n, 255, 255, 0)
	if !n.Send(3, 4, "last") {
		t.Error("no room for packet 256")
	}
	counts(t, n, 256, 256, 0)
	full := func() {
		t.Helper()
		before, _ := n.Look(255)
		sent := n.Sent()
		if n.Send(1, 2, "lost") || n.Send(7, 7, "") || n.Double(0) || n.Double(255) {
			t.Error("there is room for packet 257")
		}
		if p, ok := n.Look(255); p != before || !ok || n.Sent() != sent || n.Len() != 256 {
			t.Errorf("what is lost changes something: %+v, %v", p, ok)
		}
		if _, ok := n.Look(256); ok {
			t.Error("there is a packet 256")
		}
	}
	full()
	takes(t, n, 255, packet(3, 4, "last"))
	if !n.Send(3, 4, "second") {
		t.Error("no room behind Take")
	}
	full()
	if !n.Lose(0) || !n.Send(3, 4, "third") {
		t.Error("no room behind Lose")
	}
	full()
	n.Cut(1, 2)
	takesNone(t, n, 100)
	if !n.Double(254) {
		t.Error("no room behind a Take over a cut link")
	}
	full()
	takesNone(t, n, 256)
	if n.Lose(256) {
		t.Error("Lose(256)")
	}
	full()
	counts(t, n, 256, 258, 1)
	takes(t, n, 255, packet(3, 4, "third"))
}

// nowhere are numbers of no packet in a network with n packets.
func nowhere(n int) []int {
	return []int{-1, -2, n, n + 1, math.MinInt, math.MinInt + 1, math.MaxInt, math.MaxInt - 1, -1 << 32, 1 << 32, -256, 256}
}

// P9.1: a number of no packet: nothing is returned, and nothing changes, with no, one, three and 255 packets.
func TestNoSuchPacket(t *testing.T) {
	for _, size := range []int{0, 1, 3, 255} {
		n := numbered(t, size)
		for _, i := range nowhere(size) {
			if p, ok := n.Look(i); p != (api.Packet{}) || ok {
				t.Errorf("Look(%d) of %d: %+v, %v", i, size, p, ok)
			}
			takesNone(t, n, i)
			if n.Lose(i) || n.Double(i) {
				t.Errorf("Lose(%d) or Double(%d) of %d is true", i, i, size)
			}
		}
		counts(t, n, size, size, 0)
	}
}

// P9.1: the first, a middle and the last packet: looked at, taken, lost and doubled; there is no gap, and the order remains.
func TestPackets(t *testing.T) {
	for i, left := range [][]string{{"1", "2", "3", "4"}, {"0", "2", "3", "4"}, {"0", "1", "3", "4"}, {"0", "1", "2", "4"}, {"0", "1", "2", "3"}} {
		want := packet(1, 2, fmt.Sprint(i))
		n := numbered(t, 5)
		if p, ok := n.Look(i); p != want || !ok {
			t.Errorf("Look(%d): %+v, %v", i, p, ok)
		}
		holds(t, n, "0", "1", "2", "3", "4")
		takes(t, n, i, want)
		holds(t, n, left...)
		counts(t, n, 4, 5, 1)

		n = numbered(t, 5)
		if !n.Lose(i) {
			t.Errorf("Lose(%d)", i)
		}
		holds(t, n, left...)
		counts(t, n, 4, 5, 0)
		n.Send(1, 2, "5")
		holds(t, n, append(left, "5")...)

		n = numbered(t, 5)
		if !n.Double(i) {
			t.Errorf("Double(%d)", i)
		}
		holds(t, n, "0", "1", "2", "3", "4", want.Bytes)
		counts(t, n, 6, 5, 0)
		if p, ok := n.Look(5); p != want || !ok {
			t.Errorf("the copy of %d: %+v, %v", i, p, ok)
		}
	}
}

// P9.1: a copy can be doubled, is a packet of its own, and isn't counted as sent.
func TestDouble(t *testing.T) {
	n := New()
	n.Send(4, 5, "x")
	if !n.Double(0) || !n.Double(1) || !n.Double(0) {
		t.Error("Double is false")
	}
	n.Send(5, 4, "y")
	holds(t, n, "x", "x", "x", "x", "y")
	if !n.Lose(0) {
		t.Error("Lose")
	}
	holds(t, n, "x", "x", "x", "y")
	for range 3 {
		takes(t, n, 0, packet(4, 5, "x"))
	}
	takes(t, n, 0, packet(5, 4, "y"))
	counts(t, n, 0, 2, 4)
	n.Send(4, 5, "z")
	for i := range 255 {
		if !n.Double(i) {
			t.Fatalf("Double with %d in flight", n.Len())
		}
	}
	if n.Double(0) {
		t.Error("Double with 256 in flight")
	}
	counts(t, n, 256, 3, 4)
}

// P9.1: what is taken over a cut link is lost, in both directions; the others stay where they were.
func TestTakeOverCutLink(t *testing.T) {
	n := New()
	for _, p := range []api.Packet{{From: 1, To: 2, Bytes: "a"}, {From: 1, To: 3, Bytes: "b"}, {From: 2, To: 1, Bytes: "c"}, {From: 3, To: 1, Bytes: "d"}, {From: 2, To: 3, Bytes: "e"}, {From: 2, To: 2, Bytes: "f"}} {
		n.Send(p.From, p.To, p.Bytes)
	}
	n.Cut(2, 1)
	holds(t, n, "a", "b", "c", "d", "e", "f")
	takesNone(t, n, 0)
	holds(t, n, "b", "c", "d", "e", "f")
	takesNone(t, n, 1)
	holds(t, n, "b", "d", "e", "f")
	counts(t, n, 4, 6, 0)
	takes(t, n, 1, packet(3, 1, "d"))
	takes(t, n, 0, packet(1, 3, "b"))
	takes(t, n, 1, packet(2, 2, "f"))
	takes(t, n, 0, packet(2, 3, "e"))
	counts(t, n, 0, 6, 4)
}

// P9.1: over a cut link packets are sent, seen, doubled and lost as ever: only Take asks for the link.
func TestOtherCallsOverCutLink(t *testing.T) {
	n := New()
	n.Cut(1, 2)
	if !n.Send(1, 2, "a") || !n.Double(0) || !n.Send(2, 1, "b") || !n.Lose(0) {
		t.Error("a cut link stops Send, Double or Lose")
	}
	holds(t, n, "a", "b")
	if p, ok := n.Look(0); p != packet(1, 2, "a") || !ok {
		t.Errorf("Look: %+v, %v", p, ok)
	}
	n.Join(2, 1)
	takes(t, n, 1, packet(2, 1, "b"))
	n.Cut(2, 1)
	n.Heal()
	takes(t, n, 0, packet(1, 2, "a"))
	counts(t, n, 0, 2, 2)
}

// P9.1: a link is one in both directions: cut in the one, it is restored in the other.
func TestLinks(t *testing.T) {
	n := New()
	cut(t, n, 1, 2, false)
	n.Join(1, 2)
	n.Heal()
	cut(t, n, 1, 2, false)
	n.Cut(1, 2)
	cut(t, n, 1, 2, true)
	n.Join(2, 1)
	cut(t, n, 1, 2, false)
	n.Cut(2, 1)
	n.Cut(2, 1)
	n.Cut(1, 2)
	cut(t, n, 1, 2, true)
	for _, l := range [][2]int{{1, 1}, {2, 2}, {1, 3}, {2, 3}, {0, 1}, {0, 0}, {-1, 2}, {1, -2}, {-1, -2}} {
		cut(t, n, l[0], l[1], false)
		n.Join(l[0], l[1])
	}
	cut(t, n, 1, 2, true)
	n.Join(1, 2)
	cut(t, n, 1, 2, false)
	n.Cut(1, 2)
	cut(t, n, 1, 2, true)
}

// P9.1: the link of an endpoint to itself.
func TestLinkToItself(t *testing.T) {
	n := New()
	for range 3 {
		n.Send(4, 4, "x")
	}
	takes(t, n, 0, packet(4, 4, "x"))
	n.Cut(4, 4)
	cut(t, n, 4, 4, true)
	cut(t, n, 4, 5, false)
	cut(t, n, 3, 4, false)
	takesNone(t, n, 0)
	n.Join(4, 4)
	cut(t, n, 4, 4, false)
	takes(t, n, 0, packet(4, 4, "x"))
	counts(t, n, 0, 3, 2)
}

// P9.1: Heal restores all links, and each can be cut again.
func TestHeal(t *testing.T) {
	n := New()
	list := [][2]int{{1, 2}, {3, 2}, {1, 1}, {-5, 7}, {math.MinInt, math.MaxInt}, {0, 0}}
	for range 3 {
		for _, l := range list {
			n.Cut(l[0], l[1])
		}
		for _, l := range list {
			cut(t, n, l[0], l[1], true)
		}
		n.Heal()
		for _, l := range list {
			cut(t, n, l[0], l[1], false)
		}
	}
	n.Send(1, 2, "kept")
	n.Heal()
	holds(t, n, "kept")
	counts(t, n, 1, 1, 0)
}

// P9.1: any endpoints: each link is another one, whatever its sum, its difference, its digits or its lower bits are.
func TestEndpoints(t *testing.T) {
	all := append([]int{-3, -12, 4, 123, 112, 312, 1 << 31, -1 << 31, 1 << 62, -1 << 62, 1<<32 - 1, -1<<32 + 1}, ends...)
	for _, a := range all {
		for _, b := range all {
			n := New()
			n.Cut(a, b)
			n.Send(b, a, "x")
			takesNone(t, n, 0)
			for _, c := range all {
				for _, d := range all {
					if want := c == a && d == b || c == b && d == a; n.IsCut(c, d) != want {
						t.Fatalf("behind Cut(%d, %d), IsCut(%d, %d) isn't %v", a, b, c, d, want)
					}
				}
			}
			n.Join(b, a)
			cut(t, n, a, b, false)
			n.Send(a, b, "y")
			takes(t, n, 0, packet(a, b, "y"))
		}
	}
}

// P9.1, P9.2: any bytes, none and many, arrive as they were sent.
func TestBytes(t *testing.T) {
	n := New()
	l := []string{"", "\x00", "\xff\xfe\x80", "é\n", " ", strings.Repeat("\x00", api.MaxText), strings.Repeat("long", 1<<20)}
	for i, b := range l {
		n.Send(i, -i, b)
		n.Double(n.Len() - 1)
	}
	for i, b := range l {
		for range 2 {
			if p, ok := n.Take(0); p != packet(i, -i, b) || !ok {
				t.Errorf("packet %d has %d bytes, %v", i, len(p.Bytes), ok)
			}
		}
	}
	counts(t, n, 0, len(l), 2*len(l))
}

// P9.1: which calls Sent and Came count.
func TestCounts(t *testing.T) {
	n := New()
	n.Send(1, 2, "a")
	counts(t, n, 1, 1, 0)
	n.Double(0)
	n.Look(0)
	counts(t, n, 2, 1, 0)
	n.Lose(0)
	n.Lose(5)
	n.Double(5)
	n.Take(-1)
	counts(t, n, 1, 1, 0)
	n.Cut(1, 2)
	n.Send(2, 1, "b")
	counts(t, n, 2, 2, 0)
	n.Take(1)
	n.Heal()
	counts(t, n, 1, 2, 0)
	n.Take(0)
	n.Take(0)
	counts(t, n, 0, 2, 1)
	n.Send(1, 2, "c")
	n.Double(0)
	n.Take(0)
	n.Take(0)
	counts(t, n, 0, 3, 3)
}

// P9.1: a nil network contains nothing, whatever is done with it.
func TestNil(t *testing.T) {
	var n *Net
	for range 2 {
		if n.Send(1, 2, "a") || n.IsCut(1, 2) || n.IsCut(3, 3) {
			t.Error("Send or IsCut of a nil network is true")
		}
		for _, i := range append(nowhere(0), 0, 1) {
			if p, ok := n.Look(i); p != (api.Packet{}) || ok {
				t.Errorf("Look(%d): %+v, %v", i, p, ok)
			}
			takesNone(t, n, i)
			if n.Lose(i) || n.Double(i) {
				t.Errorf("Lose(%d) or Double(%d) is true", i, i)
			}
		}
		n.Cut(1, 2)
		n.Cut(3, 3)
		n.Join(1, 2)
		n.Join(5, 6)
		n.Heal()
		counts(t, n, 0, 0, 0)
	}
}

// P9.1: a Net that New didn't make is a network like one that it made.
func TestZeroNet(t *testing.T) {
	var n Net
	n.Join(1, 2)
	n.Heal()
	cut(t, &n, 1, 2, false)
	n.Send(1, 2, "a")
	n.Cut(1, 2)
	cut(t, &n, 1, 2, true)
	takesNone(t, &n, 0)
	counts(t, &n, 0, 1, 0)
}

// P9.1: networks share nothing.
func TestTwo(t *testing.T) {
	a, b := New(), New()
	if a == nil || b == nil || a == b {
		t.Fatal("New returns no network of its own")
	}
	a.Send(1, 2, "a")
	a.Cut(3, 4)
	counts(t, b, 0, 0, 0)
	cut(t, b, 3, 4, false)
	b.Cut(3, 4)
	b.Cut(1, 2)
	b.Send(1, 2, "b")
	b.Send(2, 1, "c")
	takes(t, a, 0, packet(1, 2, "a"))
	a.Heal()
	cut(t, b, 3, 4, true)
	cut(t, a, 3, 4, false)
	holds(t, b, "b", "c")
	takesNone(t, b, 0)
	counts(t, a, 0, 1, 1)
	counts(t, b, 1, 2, 0)
}

// P9.1: a packet that is returned is a value of its own: what is done to it changes nothing.
func TestAnswersAreCopies(t *testing.T) {
	n := New()
	n.Send(1, 2, "a")
	p, _ := n.Look(0)
	p.From, p.Bytes = 9, "changed"
	n.Double(0)
	p, _ = n.Take(0)
	p.To = 9
	takes(t, n, 0, packet(1, 2, "a"))
}
