package wal

import (
	"strconv"
	"strings"

	"exchequer/api"
	"exchequer/disk"
)

// digits is how many digits the name of a segment has.
const digits = 12

// greatest is the greatest number of a segment.
const greatest = 999999999999

// segment is a segment as Open finds it.
type segment struct {
	number  int
	begins  bool         // whether it starts with a complete beginning
	records []api.Record // those ahead of what is broken
	good    int          // the bytes ahead of what is broken
	size    int          // all bytes
}

// fileOf returns the name of the segment n.
func fileOf(n int) string {
	s := strconv.Itoa(n)
	return "w" + strings.Repeat("0", digits-len(s)) + s
}

// numberIn returns the number of the segment with the name file, 0 if it is not the name of one.
func numberIn(file string) int {
	s, ok := strings.CutPrefix(file, "w")
	if !ok || len(s) != digits {
		return 0
	}
	n := 0
	for i := range len(s) {
		if s[i] < '0' || s[i] > '9' {
			return 0
		}
		n = 10*n + int(s[i]-'0')
	}
	return n
}

// segments returns the segments of a disk, with ascending numbers.
func segments(d *disk.Disk) ([]segment, api.Errno) {
	var l []segment
	for _, file := range d.Names() {
		n := numberIn(file)
		if n == 0 {
			continue
		}
		s, err := d.Read(file)
		if err != api.OK {
			return nil, err
		}
		l = append(l, scanned(n, s))
	}
	return l, api.OK
}

// scanned returns the segment n with the bytes s.
func scanned(n int, s string) segment {
	if r, head := unframed(s); head > 0 && r == header(r.Index) {
		if l, size := unbroken(s[head:]); len(l) >= r.Index {
			return segment{number: n, begins: true, records: l, good: head + size, size: len(s)}
		}
	}
	// Without a complete beginning a header is no frame of a valid record: it is broken.
	l, size := unbroken(s)
	return segment{number: n, records: l, good: size, size: len(s)}
}

// beforeLog returns how many segments of l, whose numbers ascend, stand ahead of the log: all of them if none starts with a complete beginning.
func beforeLog(l []segment) int {
	for i := len(l) - 1; i >= 0; i-- {
		if l[i].begins {
			return i
		}
	}
	return len(l)
}

// removeAll removes segments, up to the first error.
func removeAll(d *disk.Disk, l []segment) api.Errno {
	for _, s := range l {
		if err := d.Remove(fileOf(s.number)); err != api.OK {
			return err
		}
	}
	return api.OK
}
