package disk

import (
	"slices"
	"strconv"
	"strings"
	"testing"

	"exchequer/api"
)

// P6.1: Append makes files, and puts bytes behind others.
func TestAppend(t *testing.T) {
	d := empty(t, 100)
	made(t, d, appendTo("a", ""))
	holds(t, d, "a", "")
	made(t, d, appendTo("a", "x"), appendTo("a", ""), appendTo("a", "\x00\xff"))
	holds(t, d, "a", "x\x00\xff")
	made(t, d, appendTo("b", "é"), appendTo("a", "x"))
	holds(t, d, "a", "x\x00\xffx", "b", "é")
	made(t, d, sync("b"), appendTo("b", "x"), appendTo("a", ""), appendTo("b", ""), crash()) // no bytes make others no more durable
	holds(t, d, "a", "", "b", "é")
}

// P6.1: Append of names and of what is none.
func TestAppendNames(t *testing.T) {
	for _, s := range []string{"a", "0", "_", "a-b", "zoë_2", "w000000000001", "s0000000000003", strings.Repeat("a", 24), strings.Repeat("é", 24), "\ufffd"} {
		d := empty(t, 10)
		made(t, d, appendTo(s, "x"), sync(s), appendTo(s, "y"))
		holds(t, d, s, "xy")
		made(t, d, cut(s, 1), remove(s))
		holds(t, d)
	}
	for _, s := range []string{"", "-", "-a", "A", "a b", "a/b", "a.b", "a\x00", "\xff", "a\xff", "\u00a0", strings.Repeat("a", 25), strings.Repeat("é", 25)} {
		d := empty(t, 10)
		for _, b := range []string{"", "x", "0123456789", "0123456789x"} { // ErrName comes ahead of ErrFull
			answers(t, d, appendTo(s, b), api.ErrName)
		}
		for _, c := range []call{sync(s), cut(s, 0), remove(s), read(s)} {
			answers(t, d, c, api.ErrGone)
		}
		holds(t, d)
	}
}

// P6.1: Append of as many bytes as there is room for, and of one more.
func TestAppendToTheRoom(t *testing.T) {
	for room := range 12 {
		for first := range room + 1 {
			d := empty(t, room)
			made(t, d, appendTo("a", strings.Repeat("x", first)))
			for _, s := range []string{"a", "b"} {
				answers(t, d, appendTo(s, strings.Repeat("y", room-first+1)), api.ErrFull)
				answers(t, d, appendTo(s, strings.Repeat("y", 100)), api.ErrFull)
			}
			holds(t, d, "a", strings.Repeat("x", first))
			made(t, d, appendTo("b", strings.Repeat("y", room-first)), appendTo("a", ""), appendTo("b", ""), appendTo("c", ""))
			for _, s := range []string{"a", "b", "c", "d"} {
				answers(t, d, appendTo(s, "z"), api.ErrFull)
			}
			holds(t, d, "a", strings.Repeat("x", first), "b", strings.Repeat("y", room-first), "c", "")
		}
	}
}

// P6.1: a refused Append makes no file.
func TestRefusedAppend(t *testing.T) {
	for _, c := range refusals() {
		if c.what == "Append" {
			d := filled(t)
			if _, err := c.on(d); err != api.ErrName && err != api.ErrFull {
				t.Errorf("%v: %d", c, err)
			}
			holds(t, d, "a", "xyz", "b", "12", "c", "w", "e", "")
		}
	}
}

// P6.1: all sizes count for the room, durable bytes and others, and what is cut, removed or lost leaves it.
func TestRoomIsLeft(t *testing.T) {
	for _, c := range []struct {
		calls []call
		left  int
	}{
		{nil, 4}, {[]call{sync("a"), sync("b")}, 4}, {[]call{cut("a", 3)}, 4}, {[]call{cut("a", 2)}, 5}, {[]call{cut("a", 1)}, 6}, {[]call{cut("a", 0)}, 7},
		{[]call{remove("a")}, 7}, {[]call{remove("b")}, 6}, {[]call{remove("c")}, 5}, {[]call{remove("e")}, 4},
		{[]call{crash()}, 7}, {[]call{crash(1)}, 5}, {[]call{crash(5)}, 4}, {[]call{cut("a", 1), remove("b"), crash()}, 8},
		{[]call{remove("a"), remove("b"), remove("c"), remove("e")}, 10}, {[]call{remove("a"), appendTo("a", "k")}, 6},
	} {
		d := filled(t)
		made(t, d, c.calls...)
		if n := d.Used(); n != 10-c.left {
			t.Errorf("%v: %d bytes", c.calls, n)
		}
		answers(t, d, appendTo("n", strings.Repeat("x", c.left+1)), api.ErrFull)
		made(t, d, appendTo("n", strings.Repeat("x", c.left)))
		answers(t, d, appendTo("n", "x"), api.ErrFull)
	}
}

// P6.1: Sync makes the bytes of one file durable, and no others.
func TestSync(t *testing.T) {
	for file, want := range map[string][]string{
		"a": {"a", "xyz", "b", "", "c", "w", "e", ""},
		"b": {"a", "xy", "b", "12", "c", "w", "e", ""},
		"c": {"a", "xy", "b", "", "c", "w", "e", ""},
		"e": {"a", "xy", "b", "", "c", "w", "e", ""},
	} {
		d := filled(t)
		made(t, d, sync(file), sync(file))
		holds(t, d, "a", "xyz", "b", "12", "c", "w", "e", "")
		made(t, d, crash())
		holds(t, d, want...)
	}
}

// P6.1: Cut leaves the first bytes, and each of them as it was.
func TestCut(t *testing.T) {
	const b = "012345"
	for durable := range 7 {
		for size := range 7 {
			d := empty(t, 6)
			made(t, d, appendTo("a", b[:durable]), sync("a"), appendTo("a", b[durable:]), cut("a", size))
			holds(t, d, "a", b[:size])
			for _, n := range []int{-1, size + 1, -1 << 63, 1<<63 - 1} {
				answers(t, d, cut("a", n), api.ErrArg)
			}
			made(t, d, cut("a", size), crash())
			holds(t, d, "a", b[:min(size, durable)])
			made(t, d, appendTo("a", "xyz"[:min(3, 6-min(size, durable))]), cut("a", 0))
			holds(t, d, "a", "")
		}
	}
}

// P6.1: what is appended behind a cut follows the bytes that are left.
func TestAppendBehindCut(t *testing.T) {
	d := empty(t, 100)
	made(t, d, appendTo("a", "0123456789"), cut("a", 4))
	was, err := d.Read("a")
	made(t, d, appendTo("a", "xyz"))
	holds(t, d, "a", "0123xyz")
	if was != "0123" || err != api.OK {
		t.Errorf("what was read has become %+q", was)
	}
	made(t, d, sync("a"), cut("a", 2), appendTo("a", "!"), crash(1))
	holds(t, d, "a", "01!")
}

// P6.1: Remove takes away a file, durable bytes and others, and no crash brings it back.
func TestRemove(t *testing.T) {
	for _, file := range []string{"a", "b", "c", "e"} {
		d := filled(t)
		made(t, d, remove(file))
		for _, c := range []call{read(file), sync(file), cut(file, 0), cut(file, -1), remove(file)} {
			answers(t, d, c, api.ErrGone)
		}
		if slices.Contains(d.Names(), file) || len(d.Names()) != 3 {
			t.Errorf("names %+q", d.Names())
		}
		made(t, d, crash(5))
		answers(t, d, read(file), api.ErrGone)
		made(t, d, appendTo(file, "new"))
		if b, err := d.Read(file); b != "new" || err != api.OK {
			t.Errorf("%+q, %d", b, err)
		}
	}
}

// P6.1: files that do not exist: Cut tells it ahead of a size that may not be.
func TestGone(t *testing.T) {
	d := filled(t)
	for _, file := range []string{"x", "aa", "", "A", "-a", "a\x00", "\xff"} {
		for _, c := range []call{sync(file), cut(file, 0), cut(file, 1), cut(file, -1), cut(file, 99), remove(file), read(file)} {
			answers(t, d, c, api.ErrGone)
		}
	}
	holds(t, d, "a", "xyz", "b", "12", "c", "w", "e", "")
}

// P6.1: names are ordered bytewise, in whatever order the files were made.
func TestNames(t *testing.T) {
	want := []string{"0", "9", "_", "a", "a-", "a0", "aa", "b", "é", "\ufffd", "\U0001f600"}
	for i := range want {
		d := empty(t, 100)
		for j := range want {
			made(t, d, appendTo(want[(i+j*7)%len(want)], ""))
		}
		l := d.Names()
		if !slices.Equal(l, want) {
			t.Errorf("names %+q, want %+q", l, want)
		}
		for j := range l {
			l[j] = "changed"
		}
		if l := append(d.Names(), "more"); !slices.Equal(l[:len(want)], want) {
			t.Errorf("names have become %+q", l)
		}
	}
}

// P6.1: the names and the size behind each call.
func TestNamesAndUsed(t *testing.T) {
	d := empty(t, 100)
	for _, c := range []struct {
		call  call
		names string
		used  int
	}{
		{appendTo("b", "xx"), "b", 2}, {appendTo("a", ""), "a b", 2}, {appendTo("a", "yyy"), "a b", 5}, {sync("a"), "a b", 5},
		{cut("a", 2), "a b", 4}, {appendTo("c", "z"), "a b c", 5}, {remove("a"), "b c", 3}, {crash(1), "b c", 2},
		{cut("b", 0), "b c", 1}, {cut("c", 1), "b c", 1}, {appendTo("c", "k"), "b c", 2}, {crash(), "b c", 1}, {remove("c"), "b", 0}, {remove("b"), "", 0},
	} {
		made(t, d, c.call)
		if got := strings.Join(d.Names(), " "); got != c.names || d.Used() != c.used {
			t.Errorf("%v: %+q, %d, want %+q, %d", c.call, got, d.Used(), c.names, c.used)
		}
	}
}

// P6.1: many small calls take no longer than they must.
func TestManySmallCalls(t *testing.T) {
	d := empty(t, api.MaxDisk)
	for i := range 1 << 17 {
		made(t, d, appendTo("a", "0123456789abcdef0123456789abcde"), appendTo("n"+strconv.Itoa(i%999), "x"), sync("a"))
	}
	for i := range 1 << 17 {
		made(t, d, cut("a", 1<<22-(1<<17)-i))
	}
	if b, err := d.Read("a"); len(b) != 1<<22-1<<18+1 || err != api.OK || d.Used() != len(b)+1<<17 || len(d.Names()) != 1000 {
		t.Errorf("%d bytes of %d, %d", len(b), d.Used(), err)
	}
}
