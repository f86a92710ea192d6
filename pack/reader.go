package pack

import (
	"strings"

	"exchequer/api"
)

// Reader reads one encoding after another. The zero Reader is at the beginning of the empty string.
type Reader struct {
	rest   string // what has not been read
	failed bool   // there was a fault
}

// Read returns a reader at the beginning of s.
func Read(s string) *Reader { return &Reader{rest: s} }

// Num reads a number.
func (r *Reader) Num() int { return r.Upto(greatest) }

// Upto reads a number that is not greater than most.
func (r *Reader) Upto(most int) int {
	if r.stopped() {
		return 0
	}
	n, size := decoded(r.rest)
	if size == 0 || n > most {
		r.stop()
		return 0
	}
	r.rest = r.rest[size:]
	return n
}

// Text reads a string that has no more than most bytes.
func (r *Reader) Text(most int) string {
	n := r.Upto(most)
	if r.stopped() {
		return ""
	}
	if n > len(r.rest) {
		r.stop()
		return ""
	}
	s := strings.Clone(r.rest[:n]) // so that a short string does not keep all bytes in memory
	r.rest = r.rest[n:]
	return s
}

// Flag reads a flag.
func (r *Reader) Flag() bool { return r.Upto(1) == 1 }

// Left returns how many bytes have not been read.
func (r *Reader) Left() int {
	if r == nil {
		return 0
	}
	return len(r.rest)
}

// End returns whether all bytes were read without a fault.
func (r *Reader) End() api.Errno {
	if r.stopped() || r.rest != "" {
		return api.ErrForm
	}
	return api.OK
}

// stop remembers a fault, after which nothing is left to be read.
func (r *Reader) stop() {
	r.rest, r.failed = "", true
}

// stopped returns whether nothing is read any more.
func (r *Reader) stopped() bool { return r == nil || r.failed }
