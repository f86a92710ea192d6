package disk

import (
	"math"
	"slices"
	"strings"
	"testing"

	"exchequer/api"
)

// P6.1: the examples of the chapter.
func TestExamples(t *testing.T) {
	for keep, want := range map[int]string{0: "xy", 3: "xyz"} {
		d := empty(t, 100)
		made(t, d, appendTo("a", "xy"), sync("a"), appendTo("a", "z"), crash(keep))
		holds(t, d, "a", want)
	}
}

// P6.1: which rooms a new disk may have.
func TestNew(t *testing.T) {
	for _, n := range []int{0, 1, 64, api.MaxDisk - 1, api.MaxDisk} {
		d := empty(t, n)
		holds(t, d)
		if l := d.Names(); len(l) != 0 {
			t.Errorf("names %+q", l)
		}
	}
	for _, n := range []int{-1, api.MaxDisk + 1, math.MinInt, math.MaxInt} {
		if d, err := New(n); d != nil || err != api.ErrArg {
			t.Errorf("New(%d) = %v, %d", n, d, err)
		}
	}
}

// P6.1: the room of a new disk holds, and there is no fuse.
func TestNewHasItsRoom(t *testing.T) {
	for _, n := range []int{0, 1, 64, api.MaxDisk} {
		d := empty(t, n)
		b := strings.Repeat("x", n)
		made(t, d, appendTo("a", ""))
		answers(t, d, appendTo("a", b+"y"), api.ErrFull)
		holds(t, d, "a", "")
		made(t, d, appendTo("a", b), sync("a"), appendTo("a", ""))
		answers(t, d, appendTo("a", "y"), api.ErrFull)
		answers(t, d, appendTo("b", "y"), api.ErrFull)
		holds(t, d, "a", b)
	}
}

// P6.1: two disks have nothing in common.
func TestTwoDisks(t *testing.T) {
	d, e := filled(t), filled(t)
	made(t, d, remove("a"), cut("b", 0), fuse(0), room(0))
	answers(t, d, sync("c"), api.ErrDown)
	holds(t, e, "a", "xyz", "b", "12", "c", "w", "e", "")
	made(t, e, appendTo("a", "4444"))
}

// P6.1: a Disk that New has not made is one without room.
func TestZeroDisk(t *testing.T) {
	d := new(Disk)
	holds(t, d)
	for _, c := range []call{sync("a"), cut("a", 0), remove("a"), read("a")} {
		answers(t, d, c, api.ErrGone)
	}
	made(t, d, crash(), crash(1), fuse(-1))
	answers(t, d, appendTo("a", "x"), api.ErrFull)
	made(t, d, appendTo("a", ""), room(1), appendTo("a", "x"), sync("a"), crash())
	holds(t, d, "a", "x")
}

// P6.1: which rooms may be set.
func TestRoom(t *testing.T) {
	d := filled(t)
	for _, n := range []int{-1, api.MaxDisk + 1, math.MinInt, math.MaxInt} {
		answers(t, d, room(n), api.ErrArg)
		answers(t, d, appendTo("a", "55555"), api.ErrFull) // the room is what it was
		answers(t, d, appendTo("A", ""), api.ErrName)
	}
	made(t, d, appendTo("a", "4444"))
	for _, n := range []int{0, 1, 10, api.MaxDisk} {
		made(t, d, room(n))
		holds(t, d, "a", "xyz4444", "b", "12", "c", "w", "e", "")
	}
	made(t, d, appendTo("n", strings.Repeat("x", api.MaxDisk-10)))
	answers(t, d, appendTo("n", "x"), api.ErrFull)
	if n := d.Used(); n != api.MaxDisk {
		t.Errorf("%d bytes", n)
	}
}

// P6.1: with less room than there are bytes nothing can be appended, but all else is as before.
func TestLessRoom(t *testing.T) {
	for _, n := range []int{0, 1, 5} {
		d := filled(t)
		made(t, d, room(n))
		holds(t, d, "a", "xyz", "b", "12", "c", "w", "e", "")
		for _, c := range []call{appendTo("a", ""), appendTo("a", "k"), appendTo("e", ""), appendTo("n", ""), appendTo("n", "k")} {
			answers(t, d, c, api.ErrFull)
		}
		answers(t, d, appendTo("A", "k"), api.ErrName)
		made(t, d, sync("b"), cut("a", 2), crash())
		holds(t, d, "a", "xy", "b", "12", "c", "w", "e", "")
		made(t, d, remove("a"), remove("b"), cut("c", 0), appendTo("e", strings.Repeat("k", n)), appendTo("e", ""))
		answers(t, d, appendTo("e", "k"), api.ErrFull)
	}
	d := filled(t)
	made(t, d, room(6), appendTo("a", ""), appendTo("n", "")) // as many as there are
	answers(t, d, appendTo("a", "k"), api.ErrFull)
	made(t, d, room(7), appendTo("a", "k"))
	holds(t, d, "a", "xyzk", "b", "12", "c", "w", "e", "", "n", "")
}

// P6.1: with a fuse of n, n operations of any kind are performed; the next one is not, and the power fails.
func TestFuse(t *testing.T) {
	lots := []call{appendTo("a", "k"), sync("b"), appendTo("n", ""), cut("a", 1), remove("c"), sync("a"), appendTo("e", "q"), cut("b", 2), remove("n"), appendTo("a", "")}
	for n := range len(lots) {
		d := filled(t)
		made(t, d, fuse(n))
		made(t, d, lots[:n]...)
		if d.Down() {
			t.Fatalf("fuse %d: down", n)
		}
		answers(t, d, lots[n], api.ErrDown)
		isDown(t, d)
		d.Crash(nil)
		for range len(lots) { // there is no fuse any more
			made(t, d, appendTo("n", ""), sync("n"), cut("n", 0), remove("n"))
		}
	}
}

// P6.1: the operation at which the power fails changes no file, whatever it is.
func TestFuseKeepsFiles(t *testing.T) {
	for _, c := range operations() {
		for keep, want := range map[int][]string{
			0: {"a", "xy", "b", "", "c", "w", "e", ""},
			5: {"a", "xyz", "b", "12", "c", "w", "e", ""}, // 5 modulo 2 is 1, 5 modulo 3 is 2
		} {
			d := filled(t)
			made(t, d, fuse(0))
			answers(t, d, c, api.ErrDown)
			isDown(t, d)
			made(t, d, crash(keep))
			holds(t, d, want...)
		}
	}
}

// P6.1: what returns another error, and what is no operation, does not count.
func TestFuseCountsOperations(t *testing.T) {
	for n := range 3 {
		d := filled(t)
		made(t, d, fuse(n))
		for i := range n + 1 {
			for _, c := range refusals() {
				if _, err := c.on(d); err == api.OK || err == api.ErrDown {
					t.Errorf("fuse %d: %v: %d", n-i, c, err)
				}
			}
			made(t, d, room(10), room(0), room(10), read("a"), read("e"))
			answers(t, d, room(-1), api.ErrArg)
			answers(t, d, read("x"), api.ErrGone)
			holds(t, d, "a", "xyz", "b", "12", "c", "w", "e", "")
			if i < n {
				made(t, d, sync("e"))
			}
		}
		answers(t, d, sync("e"), api.ErrDown)
		isDown(t, d)
	}
}

// P6.1: each call that returns an error returns it with a fuse of 0 too, and the power stays on.
func TestRefusedAheadOfFuse(t *testing.T) {
	for _, c := range refusals() {
		d, e := filled(t), filled(t)
		made(t, d, fuse(0))
		_, want := c.on(e)
		answers(t, d, c, want)
		holds(t, d, "a", "xyz", "b", "12", "c", "w", "e", "")
		if want == api.OK || want == api.ErrDown {
			t.Errorf("%v: %d", c, want)
		}
	}
}

// P6.1: a fuse that is set again takes the place of the one before, and a negative one removes it.
func TestFuseAgain(t *testing.T) {
	for _, c := range []struct {
		set  []int
		left int // -1: the power does not fail
	}{
		{[]int{0}, 0}, {[]int{1}, 1}, {[]int{3}, 3}, {[]int{-1}, -1}, {[]int{math.MinInt}, -1}, {[]int{math.MaxInt}, -1},
		{[]int{0, 2}, 2}, {[]int{2, 0}, 0}, {[]int{1, 3}, 3}, {[]int{3, 1}, 1}, {[]int{2, 2}, 2},
		{[]int{0, -1}, -1}, {[]int{5, -7}, -1}, {[]int{-1, 0}, 0}, {[]int{-5, 2}, 2}, {[]int{0, -1, 1}, 1},
	} {
		d := filled(t)
		for _, n := range c.set {
			d.Fuse(n)
		}
		for i := 0; i < c.left || c.left < 0 && i < 50; i++ {
			made(t, d, sync("a"))
		}
		if c.left >= 0 {
			answers(t, d, sync("a"), api.ErrDown)
			isDown(t, d)
		}
	}
	d := filled(t)
	made(t, d, fuse(2), sync("a"), fuse(2), sync("a"), sync("a")) // set again behind one operation
	answers(t, d, sync("a"), api.ErrDown)
	d = filled(t)
	made(t, d, fuse(1), sync("a"), fuse(-1), sync("a"), sync("a"))
}

// P6.1: while the power is off no call does anything but Room and Crash.
func TestDown(t *testing.T) {
	d := filled(t)
	made(t, d, fuse(0))
	answers(t, d, appendTo("a", "k"), api.ErrDown)
	isDown(t, d)
	for _, n := range []int{-1, 0, 1, 100} { // a fuse does not turn the power on
		d.Fuse(n)
		isDown(t, d)
	}
	for _, n := range []int{-1, api.MaxDisk + 1} {
		answers(t, d, room(n), api.ErrArg)
	}
	made(t, d, room(api.MaxDisk), room(0), room(8))
	isDown(t, d)
	d.Crash([]int{1, 2})
	holds(t, d, "a", "xyz", "b", "12", "c", "w", "e", "")
	answers(t, d, appendTo("a", "333"), api.ErrFull) // the room that was set while the power was off
	made(t, d, appendTo("a", "22"))
}

// P6.1: a fuse that is set while the power is off is gone behind the crash.
func TestFuseWhileDown(t *testing.T) {
	for _, n := range []int{-1, 0, 1, 2} {
		d := filled(t)
		made(t, d, fuse(0))
		answers(t, d, remove("c"), api.ErrDown)
		made(t, d, fuse(n), crash(5))
		made(t, d, sync("a"), sync("b"), sync("c"), sync("e"))
		holds(t, d, "a", "xyz", "b", "12", "c", "w", "e", "")
	}
}

// P6.1: a crash with the power on removes the fuse, whatever is left of it, and leaves the room.
func TestCrashRemovesFuse(t *testing.T) {
	for _, n := range []int{-1, 0, 1, 2, math.MaxInt} {
		d := filled(t)
		made(t, d, fuse(n), crash(5), sync("a"), sync("a"), sync("a"), appendTo("b", "4444"))
		answers(t, d, appendTo("b", "k"), api.ErrFull)
		holds(t, d, "a", "xyz", "b", "124444", "c", "w", "e", "")
	}
	d := filled(t)
	made(t, d, fuse(2), crash(), fuse(1), sync("a")) // nothing of the first fuse is added
	answers(t, d, sync("a"), api.ErrDown)
}

// P6.1: how many bytes a crash keeps of one file.
func TestKeptOfOne(t *testing.T) {
	const b = "0123456789"
	for _, c := range []struct{ late, keep, want int }{
		{1, 0, 0}, {1, 1, 1}, {1, 2, 0}, {1, 3, 1},
		{2, 0, 0}, {2, 1, 1}, {2, 2, 2}, {2, 3, 0}, {2, 4, 1},
		{10, 9, 9}, {10, 10, 10}, {10, 11, 0}, {10, 21, 10}, {10, 22, 0},
		{1, -1, 1}, {2, -1, 0}, {3, -1, 3}, {4, -1, 0}, {5, -1, 3}, {6, -1, 1}, {10, -1, 4}, // 2^64 - 1
		{2, -2, 2}, {4, -2, 4}, {6, -2, 0}, {10, -2, 3},
		{1, math.MaxInt, 1}, {2, math.MaxInt, 1}, {6, math.MaxInt, 0}, {10, math.MaxInt, 7}, // 2^63 - 1
		{1, math.MinInt, 0}, {2, math.MinInt, 2}, {6, math.MinInt, 1}, {10, math.MinInt, 8}, // 2^63
	} {
		for _, durable := range []int{0, 1, 7} {
			d := empty(t, 100)
			made(t, d, appendTo("a", b[:durable]), sync("a"), appendTo("a", b[:c.late]), crash(c.keep))
			holds(t, d, "a", b[:durable]+b[:c.want])
			made(t, d, crash()) // what was kept is durable
			holds(t, d, "a", b[:durable]+b[:c.want])
		}
		if want := remainder(c.keep, c.late+1); want != c.want {
			t.Errorf("the model keeps %d", want)
		}
	}
}

// P6.1: the numbers go round over the files that have unsynced bytes, rising by name, and over no others.
func TestKeptOfSeveral(t *testing.T) {
	fill := func() *Disk {
		d := empty(t, 100)
		made(t, d, appendTo("f", "fff"), appendTo("d", "ddd"), appendTo("b", "bbb"), appendTo("e", "eee"), appendTo("a", "aaa"), appendTo("c", ""))
		made(t, d, sync("b"), sync("e")) // without unsynced bytes: b, c and e
		return d
	}
	for _, c := range []struct {
		keep    []int
		a, d, f string
	}{
		{nil, "", "", ""}, {[]int{}, "", "", ""}, {[]int{0}, "", "", ""}, {[]int{2}, "aa", "dd", "ff"},
		{[]int{1, 2}, "a", "dd", "f"}, {[]int{3, 0}, "aaa", "", "fff"},
		{[]int{1, 2, 3}, "a", "dd", "fff"}, {[]int{3, 2, 1}, "aaa", "dd", "f"}, {[]int{0, 0, 1}, "", "", "f"},
		{[]int{1, 2, 3, 0, 0}, "a", "dd", "fff"}, {[]int{-1, 4, 5}, "aaa", "", "f"},
	} {
		d := fill()
		made(t, d, call{what: "Crash", keep: c.keep})
		holds(t, d, "a", c.a, "b", "bbb", "c", "", "d", c.d, "e", "eee", "f", c.f)
		made(t, d, crash(3))
		holds(t, d, "a", c.a, "b", "bbb", "c", "", "d", c.d, "e", "eee", "f", c.f)
	}
}

// P6.1: a crash counts the unsynced bytes that a cut has left.
func TestKeptOfCut(t *testing.T) {
	for _, c := range []struct {
		size, keep int
		want       string
	}{
		{6, 2, "xyz12"}, {5, 2, "xyz12"}, {5, 3, "xyz"}, {4, 2, "xyz"}, {4, 1, "xyz1"}, {4, 3, "xyz1"},
		{3, 1, "xyz"}, {2, 1, "xy"}, {1, 5, "x"}, {0, 1, ""},
	} {
		d := empty(t, 100)
		made(t, d, appendTo("a", "xyz"), sync("a"), appendTo("a", "123"), cut("a", c.size), appendTo("b", "q"), crash(c.keep, 1))
		b := "q"
		if c.size <= 3 { // then b is the first one with unsynced bytes
			b = "q"[:c.keep%2]
		}
		holds(t, d, "a", c.want, "b", b)
	}
	d := empty(t, 100)
	made(t, d, appendTo("a", "xyz"), sync("a"), cut("a", 1), appendTo("a", "56"), crash()) // what is appended behind a cut is unsynced
	holds(t, d, "a", "x")
	made(t, d, appendTo("a", "56"), cut("a", 2), appendTo("a", "7"), crash(2))
	holds(t, d, "a", "x57")
	made(t, d, appendTo("a", "8"), remove("a"), appendTo("a", "9"), crash()) // a file that is made anew is another one
	holds(t, d, "a", "")
}

// P6.1: a crash may follow a crash, and be one of an empty disk.
func TestCrashes(t *testing.T) {
	d := empty(t, 10)
	made(t, d, crash(), crash(1, 2, 3))
	holds(t, d)
	made(t, d, appendTo("a", ""), crash(7))
	holds(t, d, "a", "")
	made(t, d, appendTo("a", "0123456789"), crash())
	holds(t, d, "a", "")
	made(t, d, appendTo("b", "0123456789"), crash(10)) // what was lost leaves its room
	answers(t, d, appendTo("a", "x"), api.ErrFull)
	holds(t, d, "a", "", "b", "0123456789")
}

// P6.1: the list that a crash is given stays as it is.
func TestKeepStays(t *testing.T) {
	keep := []int{-1, 5, 2, 9, 9}
	d := filled(t)
	d.Crash(keep[:3])
	if !slices.Equal(keep, []int{-1, 5, 2, 9, 9}) {
		t.Errorf("%v", keep)
	}
}

// P6.1: a nil disk is down and has nothing.
func TestNilDisk(t *testing.T) {
	var d *Disk
	isDown(t, d)
	for _, n := range []int{-1, 0, 10, api.MaxDisk, api.MaxDisk + 1} {
		answers(t, d, room(n), api.ErrDown)
	}
	for _, n := range []int{-1, 0, 1} {
		d.Fuse(n)
	}
	d.Crash(nil)
	d.Crash([]int{1})
	isDown(t, d)
}
