package span

import (
	"slices"
	"strings"
	"testing"

	"exchequer/api"
)

// united tells whether the union is another one, in whatever order the spans are passed.
func united(t *testing.T, l, want []api.Span) {
	t.Helper()
	for i := range max(1, len(l)) {
		turned := slices.Concat(l[i:], l[:i])
		for range 2 {
			if got := Union(turned); !slices.Equal(got, want) {
				t.Errorf("Union(%+q) = %+q, want %+q", turned, got, want)
			}
			judgeUnion(t, turned)
			slices.Reverse(turned)
		}
	}
}

// covered tells whether Covers answers something else, in whichever order the spans are passed.
func covered(t *testing.T, l []api.Span, s api.Span, want bool) {
	t.Helper()
	back := slices.Clone(l)
	slices.Reverse(back)
	if Covers(l, s) != want || Covers(back, s) != want {
		t.Errorf("Covers(%+q, %+q) = %v, %v from behind", l, s, Covers(l, s), Covers(back, s))
	}
	judgeMinus(t, l, s)
}

// without tells whether Minus leaves something else.
func without(t *testing.T, l []api.Span, s api.Span, want []api.Span) {
	t.Helper()
	if got := Minus(l, s); !slices.Equal(got, want) {
		t.Errorf("Minus(%+q, %+q) = %+q, want %+q", l, s, got, want)
	}
	back := slices.Clone(l)
	slices.Reverse(back)
	for _, x := range [][]api.Span{l, back} {
		judgeMinus(t, x, s)
		judgeKeys(t, x, s)
	}
}

// notValid returns spans that are not valid.
func notValid() []api.Span {
	a66 := strings.Repeat("a", 66)
	return spans("a", "a", "d", "b", "c\x00", "c", a66, "", "", a66, a66, "b", "a", "a"+a66, "\xff", "\xfe")
}

// P5.1: the examples of the chapter.
func TestExamples(t *testing.T) {
	for p, want := range map[string]api.Span{"a": sp("a", "b"), "a\xff": sp("a\xff", "b"), "": sp("", ""), "\xff": sp("\xff", "")} {
		if got := Under(p); got != want {
			t.Errorf("Under(%+q) = %+q", p, got)
		}
	}
	united(t, spans("b", "d", "a", "c", "d", "e"), spans("a", "e"))
	without(t, spans("a", "e"), sp("b", "c"), spans("a", "b", "c", "e"))
}

// P5.1: unions.
func TestUnion(t *testing.T) {
	united(t, nil, nil)
	united(t, []api.Span{}, nil)
	united(t, spans("a", "b"), spans("a", "b"))
	united(t, spans("a", "c", "b", "d"), spans("a", "d"))                     // overlap
	united(t, spans("a", "b", "b", "c"), spans("a", "c"))                     // touch
	united(t, spans("a", "b", "b", "c", "c", "d", "d", "e"), spans("a", "e")) // touch in a row
	united(t, spans("a", "b", "b\x00", "c"), spans("a", "b", "b\x00", "c"))   // a gap of one key
	united(t, spans("a", "b", "c", "d"), spans("a", "b", "c", "d"))
	united(t, spans("a", "f", "b", "c"), spans("a", "f")) // within
	united(t, spans("a", "f", "b", "c", "d", "e", "e", "g"), spans("a", "g"))
	united(t, spans("a", "f", "a", "c"), spans("a", "f")) // one end shared
	united(t, spans("a", "f", "c", "f"), spans("a", "f"))
	united(t, spans("a", "b", "a", "b", "a", "b"), spans("a", "b")) // equal
	united(t, spans("e", "f", "a", "b", "c", "d"), spans("a", "b", "c", "d", "e", "f"))
	united(t, spans("e", "f", "a", "b", "c", "d", "b", "c"), spans("a", "d", "e", "f"))
}

// P5.1: unions of spans without an end or from the first key on.
func TestUnionWithoutEnds(t *testing.T) {
	united(t, spans("", ""), spans("", ""))
	united(t, spans("b", "", "a", "c"), spans("a", ""))
	united(t, spans("b", "", "a", "b"), spans("a", ""))
	united(t, spans("b", "", "a", "a\xff"), spans("a", "a\xff", "b", ""))
	united(t, spans("b", "", "c", "d", "e", ""), spans("b", ""))
	united(t, spans("b", "", "b", "c"), spans("b", ""))
	united(t, spans("a", "", "b", "", "c", ""), spans("a", ""))
	united(t, spans("", "b", "", "c"), spans("", "c"))
	united(t, spans("", "b", "b", ""), spans("", ""))
	united(t, spans("", "b", "c", ""), spans("", "b", "c", ""))
	united(t, spans("", "\x00", "\x00", "\x00\x00"), spans("", "\x00\x00"))
	united(t, spans("", "", "a", "b", "c", ""), spans("", ""))
}

// P5.1: spans that are not valid are ignored, alone and beside others.
func TestUnionOfNotValid(t *testing.T) {
	united(t, notValid(), nil)
	for _, bad := range notValid() {
		united(t, []api.Span{bad}, nil)
		united(t, []api.Span{bad, sp("b", "c")}, spans("b", "c"))
		united(t, []api.Span{sp("b", "c"), bad, sp("e", "f")}, spans("b", "c", "e", "f"))
		united(t, []api.Span{bad, sp("b", "c"), bad, sp("c", ""), bad}, spans("b", ""))
	}
	a66 := strings.Repeat("a", 66)
	united(t, spans(a66[:65], "", "a", a66[:64], a66, "b"), spans("a", a66[:64], a66[:65], ""))
	united(t, spans(a66[:65], "", "a", a66[:65], "", a66), spans("a", ""))
}

// P5.1: which spans the union covers.
func TestCovers(t *testing.T) {
	l := spans("b", "d", "d", "f", "h", "k")
	for _, s := range []api.Span{
		sp("b", "d"), sp("b", "c"), sp("c", "d"), sp("d", "e"), sp("h", "k"), sp("i", "j"), Key("b"), Key("e\xff"), Key("h"), // in one
		sp("b", "f"), sp("c", "e"), sp("b", "e"), sp("c\xff", "d\x00"), // across two that touch
	} {
		covered(t, l, s, true)
	}
	for _, s := range []api.Span{
		sp("b", "h"), sp("e", "i"), sp("b", "k"), sp("f", "h"), Key("f"), sp("g", "g\x00"), sp("b", "f\x00"), sp("e", "g"), sp("g", "i"), sp("g\xff", "i"), // a gap
		sp("j", "k\x00"), sp("j", "l"), sp("k", "l"), sp("l", "m"), sp("j", ""), sp("k", ""), Key("k"), // beyond the last
		sp("a", "c"), sp("a", "b"), sp("a\xff", "b\x00"), sp("", "c"), sp("", "b"), Key(""), sp("", ""),
	} {
		covered(t, l, s, false)
	}
	covered(t, spans("a", "d", "c", "f"), sp("b", "e"), true)
	covered(t, spans("a", "c", "b", "d", "c", "e"), sp("a", "e"), true)
}

// P5.1: Covers of spans without an end, of spans that are not valid, and by none.
func TestCoversEdges(t *testing.T) {
	for _, s := range []api.Span{sp("", ""), sp("a", ""), sp("a", "b"), Key(""), Key("a")} {
		covered(t, nil, s, false)
		covered(t, []api.Span{}, s, false)
		covered(t, notValid(), s, false)
		covered(t, spans("", ""), s, true)
		covered(t, spans("a", "", "", "a"), s, true)
		covered(t, spans("a\x00", "", "", "a"), s, s == Key(""))
	}
	covered(t, spans("b", "", "a", "b"), sp("a", ""), true)
	covered(t, spans("b", ""), sp("b", "\xff"), true)
	covered(t, spans("b", "\xff"), sp("b", ""), false)
	for _, bad := range notValid() {
		covered(t, nil, bad, false)
		covered(t, spans("", ""), bad, false)
		covered(t, []api.Span{bad}, bad, false)
		covered(t, append(notValid(), sp("b", "c")), sp("b", "c"), true)
		covered(t, []api.Span{bad}, sp("b", "c"), false)
	}
	a66 := strings.Repeat("a", 66)
	covered(t, spans("a", "b"), sp(a66[:64], "b"), true)
	covered(t, spans("a", "b"), sp(a66[:65], "b"), true)
	covered(t, spans("a", "b"), sp(a66, "b"), false)
}

// P5.1: what is left of one span.
func TestMinusOfOne(t *testing.T) {
	l := spans("b", "f")
	without(t, l, sp("b", "c"), spans("c", "f")) // at the beginning
	without(t, l, sp("a", "c"), spans("c", "f"))
	without(t, l, sp("", "c"), spans("c", "f"))
	without(t, l, sp("e", "f"), spans("b", "e")) // at the end
	without(t, l, sp("e", "g"), spans("b", "e"))
	without(t, l, sp("e", ""), spans("b", "e"))
	without(t, l, sp("c", "d"), spans("b", "c", "d", "f")) // in the middle
	without(t, l, Key("b"), spans("b\x00", "f"))
	without(t, l, Key("c"), spans("b", "c", "c\x00", "f"))
	without(t, l, sp("b\x00", "f"), []api.Span{Key("b")})
	for _, s := range spans("b", "f", "a", "f", "b", "g", "a", "g", "", "f", "b", "", "", "", "a", "", "", "g") { // the whole
		without(t, l, s, nil)
	}
	for _, s := range spans("a", "b", "", "b", "f", "g", "f", "", "g", "h", "g", "", "", "a", "", "\x00") { // nothing of it
		without(t, l, s, l)
	}
}

// P5.1: what is left of several spans.
func TestMinusOfSeveral(t *testing.T) {
	l := spans("b", "d", "f", "h", "j", "l")
	without(t, l, sp("c", "k"), spans("b", "c", "k", "l"))
	without(t, l, sp("c", "g"), spans("b", "c", "g", "h", "j", "l"))
	without(t, l, sp("g", "k"), spans("b", "d", "f", "g", "k", "l"))
	without(t, l, sp("d", "j"), spans("b", "d", "j", "l"))
	without(t, l, sp("d\x00", "i"), spans("b", "d", "j", "l"))
	without(t, l, sp("d", "f"), l)
	without(t, l, sp("f", "h"), spans("b", "d", "j", "l"))
	without(t, l, sp("g", ""), spans("b", "d", "f", "g"))
	without(t, l, sp("", "g"), spans("g", "h", "j", "l"))
	without(t, l, sp("", ""), nil)
	without(t, l, sp("a", "m"), nil)
	without(t, spans("b", "d", "d", "f", "c", "e"), sp("c", "e"), spans("b", "c", "e", "f"))
	without(t, spans("a", "c", "b", "d"), sp("e", "f"), spans("a", "d"))
}

// P5.1: what is left where a span has no end, or nothing is taken away.
func TestMinusEdges(t *testing.T) {
	without(t, spans("b", ""), sp("c", ""), spans("b", "c"))
	without(t, spans("b", ""), sp("b", ""), nil)
	without(t, spans("b", ""), sp("a", ""), nil)
	without(t, spans("b", ""), sp("", ""), nil)
	without(t, spans("b", ""), sp("c", "d"), spans("b", "c", "d", ""))
	without(t, spans("b", ""), sp("b", "c"), spans("c", ""))
	without(t, spans("b", ""), sp("", "c"), spans("c", ""))
	without(t, spans("b", ""), sp("", "b"), spans("b", ""))
	without(t, spans("", ""), sp("", ""), nil)
	without(t, spans("", ""), sp("a", ""), spans("", "a"))
	without(t, spans("", ""), sp("", "a"), spans("a", ""))
	without(t, spans("", ""), Key(""), spans("\x00", ""))
	without(t, spans("", ""), sp("a", "b"), spans("", "a", "b", ""))
	without(t, spans("a", "b"), sp("c", ""), spans("a", "b"))
	for _, s := range []api.Span{sp("", ""), sp("a", "b"), Key("")} {
		without(t, nil, s, nil)
		without(t, []api.Span{}, s, nil)
		without(t, notValid(), s, nil)
	}
	for _, bad := range notValid() {
		without(t, spans("c", "e", "a", "b", "b", "c"), bad, spans("a", "e"))
		without(t, spans("c", "", "a", "b"), bad, spans("a", "b", "c", ""))
		without(t, []api.Span{bad, sp("a", "c")}, sp("b", "d"), spans("a", "b"))
		without(t, nil, bad, nil)
		without(t, notValid(), bad, nil)
	}
	a65 := strings.Repeat("a", 65)
	without(t, spans("a", "b"), sp(a65, "aa\xff"), spans("a", a65, "aa\xff", "b"))
}

// P5.1: no call changes the list, or what its memory has beyond it, and no answer shares memory with it.
func TestListsStay(t *testing.T) {
	lists := [][]api.Span{nil, {}, spans("a", "b"), spans("a", "b", "c", "d"), spans("c", "d", "a", "b"), spans("d", "a", "b", "c", "", "", "b", "c"), notValid(), append(notValid(), sp("a", "b"))}
	for _, l := range lists {
		for _, s := range spans("", "", "a", "b", "b", "a", "x", "y", "a\x00", "c\xff") {
			full := append(slices.Clone(l), spans("z", "y", "0", "1", "", "")...)
			kept := slices.Clone(full)
			part := full[:len(l)]
			Covers(part, s)
			for _, got := range [][]api.Span{Union(part), Minus(part, s)} {
				for i := range got {
					got[i] = sp("changed", "")
				}
				_ = append(got, sp("new", ""))
			}
			if !slices.Equal(full, kept) {
				t.Fatalf("%+q has become %+q", kept, full)
			}
		}
	}
}

// P5.1, P5.2: all lists of up to three spans between some ends, and each span taken away.
func TestShortLists(t *testing.T) {
	all := pairs("", "\x00", "a", "a\x00", "b")
	if testing.Short() {
		all = pairs("", "a", "a\x00")
	}
	level := [][]api.Span{nil}
	for n := range 4 {
		var next [][]api.Span
		for _, l := range level {
			judgeUnion(t, l)
			for _, s := range all {
				judgeMinus(t, l, s)
				if n < 3 {
					judgeKeys(t, l, s)
					next = append(next, append(slices.Clone(l), s))
				}
			}
		}
		level = next
	}
}

// P5.1, P5.2: longer lists of mixed spans.
func TestMixedLists(t *testing.T) {
	a66 := strings.Repeat("a", 66)
	ends := []string{"", "", "\x00", "\x01", "A", "a", "a\x00", "a\xff", "aa", a66[:64], a66[:65], a66, "b", "b\x00", "c", "d", "e", "é", "\x7f", "\x80", "\xfe", "\xff", "\xff\xff"}
	x := uint32(1)
	mixed := func(n int) int {
		x ^= x << 13
		x ^= x >> 17
		x ^= x << 5
		return int(x>>3) % n
	}
	for range 20000 {
		var l []api.Span
		for range mixed(12) {
			l = append(l, sp(ends[mixed(len(ends))], ends[mixed(len(ends))]))
		}
		s := sp(ends[mixed(len(ends))], ends[mixed(len(ends))])
		judgeUnion(t, l)
		judgeMinus(t, l, s)
		judgeKeys(t, l, s)
	}
}

// P5.1, P5.2: lists of many spans.
func TestLongLists(t *testing.T) {
	const n = 10000
	two := func(i int) string { return string([]byte{byte(i >> 8), byte(i)}) }
	var touching, alone []api.Span
	for i := range n {
		at := i * 7 % n
		touching = append(touching, sp(two(at), two(at+1)), sp("b", "a"), Key(two(at)))
		alone = append(alone, Key(two(at)), sp("b", "a"))
	}
	if got := Union(touching); !slices.Equal(got, spans(two(0), two(n))) {
		t.Fatalf("the union is %+q", got)
	}
	if got := Union(append(alone, touching...)); !slices.Equal(got, spans(two(0), two(n))) {
		t.Fatalf("the union is %+q", got)
	}
	if got := Union(alone); len(got) != n || got[0] != Key(two(0)) || got[n-1] != Key(two(n-1)) {
		t.Fatalf("the union has %d spans", len(got))
	}
	if got := Minus(alone, sp(two(16), two(32))); len(got) != n-16 || got[15] != Key(two(15)) || got[16] != Key(two(32)) {
		t.Fatalf("%d spans are left", len(got))
	}
	if !Covers(touching, sp(two(1), two(n-1))) || Covers(alone, sp(two(1), two(2))) || !Covers(alone, Key(two(n-1))) {
		t.Fatal("Covers")
	}
}

// P5.1, P5.2: any ends.
func FuzzSpans(f *testing.F) {
	f.Add("a", "c", "b", "d", "b", "")
	f.Add("", "\x00", "\x00", "", "\xff", "\xff\x00")
	f.Fuzz(func(t *testing.T, a, b, c, d, e, g string) {
		l, s := spans(a, b, c, d), sp(e, g)
		judgeUnion(t, l)
		judgeMinus(t, l, s)
		judgeKeys(t, l, s)
		for _, k := range near(a) {
			has(t, Under(a), strings.HasPrefix(k, a), k)
		}
	})
}
