package span

import (
	"slices"
	"testing"

	"exchequer/api"
)

// sp returns a span.
func sp(from, to string) api.Span { return api.Span{From: from, To: to} }

// spans returns a list of spans from their ends.
func spans(ends ...string) []api.Span {
	var l []api.Span
	for i := 0; i < len(ends); i += 2 {
		l = append(l, sp(ends[i], ends[i+1]))
	}
	return l
}

// pairs returns all spans between some ends, those that are not valid too.
func pairs(ends ...string) []api.Span {
	var l []api.Span
	for _, from := range ends {
		for _, to := range ends {
			l = append(l, sp(from, to))
		}
	}
	return l
}

// wantRight is what Right answers.
func wantRight(s api.Span) bool {
	if len(s.From) > 65 || len(s.To) > 65 {
		return false
	}
	return s.To == "" || s.To > s.From
}

// wantHas is what Has answers.
func wantHas(s api.Span, k string) bool {
	if s.To == "" {
		return s.From <= k
	}
	return s.From <= k && k < s.To
}

// anyHas returns whether a valid span of l contains k.
func anyHas(l []api.Span, k string) bool {
	for _, s := range l {
		if wantRight(s) && wantHas(s, k) {
			return true
		}
	}
	return false
}

// cuts returns all ends of some lists, rising, each once, with the least string: between two of them nothing changes.
func cuts(lists ...[]api.Span) []string {
	c := []string{""}
	for _, l := range lists {
		for _, s := range l {
			c = append(c, s.From, s.To)
		}
	}
	slices.Sort(c)
	return slices.Compact(c)
}

// runs returns the fewest spans between cuts that contain the keys that in tells, which changes at cuts only.
func runs(c []string, in func(k string) bool) []api.Span {
	var l []api.Span
	was := false
	for _, k := range c {
		now := in(k)
		if now && !was {
			l = append(l, sp(k, ""))
		}
		if was && !now {
			l[len(l)-1].To = k
		}
		was = now
	}
	return l
}

// wantUnion is what Union answers.
func wantUnion(l []api.Span) []api.Span {
	return runs(cuts(l), func(k string) bool { return anyHas(l, k) })
}

// wantMinus is what Minus answers.
func wantMinus(l []api.Span, s api.Span) []api.Span {
	away := []api.Span{s}
	return runs(cuts(l, away), func(k string) bool { return anyHas(l, k) && !anyHas(away, k) })
}

// wantCovers is what Covers answers.
func wantCovers(l []api.Span, s api.Span) bool {
	if !wantRight(s) {
		return false
	}
	for _, k := range cuts(l, []api.Span{s}) {
		if wantHas(s, k) && !anyHas(l, k) {
			return false
		}
	}
	return true
}

// near returns keys on both sides of a string and at it.
func near(k string) []string {
	l := []string{k, k + "\x00", k + "\x00\x00", k + "\xff", k + "a"}
	if n := len(k); n > 0 {
		l = append(l, k[:n-1])
		if c := k[n-1]; c > 0 {
			l = append(l, k[:n-1]+string([]byte{c - 1}), k[:n-1]+string([]byte{c - 1, 0xff}), k[:n-1]+string([]byte{c - 1, 0xff, 0xff}))
		}
		if c := k[n-1]; c < 255 {
			l = append(l, k[:n-1]+string([]byte{c + 1}))
		}
	}
	return l
}

// tidy tells whether a list is not one of valid spans with gaps between them, rising.
func tidy(t *testing.T, l []api.Span) {
	t.Helper()
	for i, s := range l {
		if !wantRight(s) {
			t.Fatalf("%+q: %+q is not valid", l, s)
		}
		if i > 0 && (l[i-1].To == "" || l[i-1].To >= s.From) {
			t.Fatalf("%+q: there is no gap ahead of %+q", l, s)
		}
	}
}

// judgeUnion holds Union against the words of the chapter.
func judgeUnion(t *testing.T, l []api.Span) {
	t.Helper()
	got := Union(l)
	if want := wantUnion(l); !slices.Equal(got, want) {
		t.Fatalf("Union(%+q) = %+q, want %+q", l, got, want)
	}
	tidy(t, got)
	for _, c := range cuts(l) {
		for _, k := range near(c) {
			if anyHas(got, k) != anyHas(l, k) {
				t.Fatalf("Union(%+q) = %+q: %+q", l, got, k)
			}
		}
	}
	if again := Union(got); !slices.Equal(again, got) {
		t.Fatalf("Union(%+q) = %+q", got, again)
	}
}

// judgeMinus holds Minus and Covers against the words of the chapter.
func judgeMinus(t *testing.T, l []api.Span, s api.Span) {
	t.Helper()
	if got, want := Covers(l, s), wantCovers(l, s); got != want {
		t.Fatalf("Covers(%+q, %+q) = %v", l, s, got)
	}
	got := Minus(l, s)
	if want := wantMinus(l, s); !slices.Equal(got, want) {
		t.Fatalf("Minus(%+q, %+q) = %+q, want %+q", l, s, got, want)
	}
	tidy(t, got)
	if Covers(got, s) {
		t.Fatalf("Minus(%+q, %+q) = %+q, which covers it", l, s, got)
	}
	if again := Minus(got, s); !slices.Equal(again, got) {
		t.Fatalf("Minus(%+q, %+q) = %+q, want it as it is", got, s, again)
	}
}

// judgeKeys holds what Minus leaves against each key near the ends.
func judgeKeys(t *testing.T, l []api.Span, s api.Span) {
	t.Helper()
	away := []api.Span{s}
	got := Minus(l, s)
	for _, c := range cuts(l, away) {
		for _, k := range near(c) {
			if anyHas(got, k) != (anyHas(l, k) && !anyHas(away, k)) {
				t.Fatalf("Minus(%+q, %+q) = %+q: %+q", l, s, got, k)
			}
		}
	}
}
