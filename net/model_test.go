package net

import (
	"fmt"
	"math"
	"testing"

	"exchequer/api"
)

// added is a packet that was added at some time.
type added struct {
	p    api.Packet
	gone bool
}

// change is a change of links: of one, or of all.
type change struct {
	what string
	a, b int
}

// model is a network by the words of the chapter: all that was added and all changes of links are kept, and each answer is worked out from these.
type model struct {
	packets    []added
	changes    []change
	sent, came int
}

// flight returns where the packets in flight stand among all.
func (m *model) flight() []int {
	var l []int
	for i, a := range m.packets {
		if !a.gone {
			l = append(l, i)
		}
	}
	return l
}

// look returns packet i.
func (m *model) look(i int) (api.Packet, bool) {
	for k, at := range m.flight() {
		if k == i {
			return m.packets[at].p, true
		}
	}
	return api.Packet{}, false
}

// add adds a packet.
func (m *model) add(p api.Packet) bool {
	if len(m.flight()) == 256 {
		return false
	}
	m.packets = append(m.packets, added{p: p})
	return true
}

// send is Send.
func (m *model) send(from, to int, bytes string) bool {
	ok := m.add(api.Packet{From: from, To: to, Bytes: bytes})
	if ok {
		m.sent++
	}
	return ok
}

// lose is Lose.
func (m *model) lose(i int) bool {
	_, ok := m.look(i)
	if ok {
		m.packets[m.flight()[i]].gone = true
	}
	return ok
}

// take is Take.
func (m *model) take(i int) (api.Packet, bool) {
	p, ok := m.look(i)
	m.lose(i)
	if !ok || m.isCut(p.From, p.To) {
		return api.Packet{}, false
	}
	m.came++
	return p, true
}

// double is Double.
func (m *model) double(i int) bool {
	p, ok := m.look(i)
	return ok && m.add(p)
}

// isCut is IsCut: what was done last to the link decides.
func (m *model) isCut(a, b int) bool {
	cut := false
	for _, c := range m.changes {
		if c.what == "Heal" || c.a == a && c.b == b || c.a == b && c.b == a {
			cut = c.what == "Cut"
		}
	}
	return cut
}

// ends are endpoints that the tests use most.
var ends = []int{0, 1, 2, 3, 12, 23, -1, -2, 1 << 32, 1<<32 + 1, math.MinInt, math.MinInt + 1, math.MaxInt}

// twins are a network of the package, and one by the words.
type twins struct {
	got  *Net
	want *model
	said []string
}

// newTwins returns two networks.
func newTwins() *twins { return &twins{got: New(), want: &model{}} }

// judge tells where an answer, or what the network shows of itself, isn't as it should be.
func (w *twins) judge(t *testing.T, what string, got, want any) {
	t.Helper()
	w.said = append(w.said, what)
	if got != want {
		t.Fatalf("%q: %v, want %v", w.said, got, want)
	}
	n := len(w.want.flight())
	got = [3]int{w.got.Len(), w.got.Sent(), w.got.Came()}
	want = [3]int{n, w.want.sent, w.want.came}
	if got != want {
		t.Fatalf("%q: Len, Sent, Came: %v, want %v", w.said, got, want)
	}
	for _, i := range []int{-1, 0, 1, n / 2, n - 2, n - 1, n, n + 1} {
		w.look(t, i)
	}
}

// look compares a packet.
func (w *twins) look(t *testing.T, i int) {
	t.Helper()
	p, ok := w.got.Look(i)
	if want, wantOk := w.want.look(i); p != want || ok != wantOk {
		t.Fatalf("%q: Look(%d): %+v, %v; want %+v, %v", w.said, i, p, ok, want, wantOk)
	}
}

// all compares all packets, and all links of the ends.
func (w *twins) all(t *testing.T) {
	t.Helper()
	for i, at := range w.want.flight() {
		if p, ok := w.got.Look(i); p != w.want.packets[at].p || !ok {
			t.Fatalf("%q: Look(%d): %+v, %v; want %+v", w.said, i, p, ok, w.want.packets[at].p)
		}
	}
	for _, a := range ends {
		for _, b := range ends {
			if got, want := w.got.IsCut(a, b), w.want.isCut(a, b); got != want {
				t.Fatalf("%q: IsCut(%d, %d): %v, want %v", w.said, a, b, got, want)
			}
		}
	}
}

// send calls Send.
func (w *twins) send(t *testing.T, from, to int, bytes string) bool {
	t.Helper()
	ok := w.got.Send(from, to, bytes)
	w.judge(t, fmt.Sprintf("Send(%d, %d, %d bytes)", from, to, len(bytes)), ok, w.want.send(from, to, bytes))
	return ok
}

// taken is what Take returns.
type taken struct {
	p  api.Packet
	ok bool
}

// take calls Take.
func (w *twins) take(t *testing.T, i int) (api.Packet, bool) {
	t.Helper()
	p, ok := w.got.Take(i)
	want, wantOk := w.want.take(i)
	w.judge(t, fmt.Sprintf("Take(%d)", i), taken{p, ok}, taken{want, wantOk})
	return p, ok
}

// lose calls Lose.
func (w *twins) lose(t *testing.T, i int) {
	t.Helper()
	w.judge(t, fmt.Sprintf("Lose(%d)", i), w.got.Lose(i), w.want.lose(i))
}

// double calls Double.
func (w *twins) double(t *testing.T, i int) bool {
	t.Helper()
	ok := w.got.Double(i)
	w.judge(t, fmt.Sprintf("Double(%d)", i), ok, w.want.double(i))
	return ok
}

// link calls Cut, Join or Heal.
func (w *twins) link(t *testing.T, what string, a, b int) {
	t.Helper()
	switch what {
	case "Cut":
		w.got.Cut(a, b)
	case "Join":
		w.got.Join(a, b)
	case "Heal":
		w.got.Heal()
	}
	w.want.changes = append(w.want.changes, change{what, a, b})
	w.judge(t, fmt.Sprintf("%s(%d, %d)", what, a, b), w.got.IsCut(a, b), what == "Cut")
}
