package shot

import (
	"slices"
	"strconv"
	"strings"

	"exchequer/api"
	"exchequer/disk"
	"exchequer/pack"
	"exchequer/sum"
)

// digits is how many digits the name of a snapshot's file has.
const digits = 13

// prefix is how many bytes stand ahead of the encoding: its checksum.
const prefix = 4

// valid returns whether s is a valid snapshot.
func valid(s api.Snap) bool {
	return inRange(s.Index) && inRange(s.Term) && len(s.Data) <= api.MaxSnap
}

// inRange returns whether n is a number that a valid snapshot can have.
func inRange(n int) bool { return n >= 0 && n <= api.MaxNum }

// fileOf returns the name of the file of a valid snapshot.
func fileOf(s api.Snap) string {
	n := strconv.Itoa(s.Index)
	return "s" + strings.Repeat("0", digits-len(n)) + n
}

// named returns whether a name has the form of those of snapshots' files.
func named(file string) bool {
	for i, r := range file {
		if i == 0 && r != 's' || i > 0 && (r < '0' || r > '9') {
			return false
		}
	}
	return len(file) == 1+digits
}

// files returns the names on a disk that have the form of those of snapshots' files, in ascending order.
func files(d *disk.Disk) []string {
	return slices.DeleteFunc(d.Names(), func(file string) bool { return !named(file) })
}

// contentOf returns what the file of a valid snapshot contains: a Writer takes all of these.
func contentOf(s api.Snap) string {
	var w pack.Writer
	w.Num(s.Index)
	w.Num(s.Term)
	w.Text(s.Data)
	b, _ := w.Bytes()
	c := sum.Of([]byte(b))
	return string([]byte{byte(c >> 24), byte(c >> 16), byte(c >> 8), byte(c)}) + b
}

// snapIn returns the snapshot that a file with such a name and content stores, if the file is complete.
func snapIn(file, content string) (api.Snap, bool) {
	if len(content) < prefix {
		return api.Snap{}, false
	}
	r := pack.Read(content[prefix:])
	s := api.Snap{Index: r.Num(), Term: r.Num(), Data: r.Text(api.MaxSnap)}
	// It is compared as it would be written: so neither the checksum nor a fault of the reader needs a check of its own.
	if !valid(s) || fileOf(s) != file || contentOf(s) != content {
		return api.Snap{}, false
	}
	return s, true
}
