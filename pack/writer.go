package pack

import "exchequer/api"

// Writer collects encodings. Its zero value is empty. Once it is in use it is not to be copied: copies would append to the same memory.
type Writer struct {
	out   []byte
	fault api.Errno
}

// Num appends the encoding of a number from 0 to 2^62 - 1.
func (w *Writer) Num(n int) {
	if w.stopped() {
		return
	}
	if n < 0 || n > greatest {
		w.stop(api.ErrArg)
		return
	}
	w.put(encoded(n), "")
}

// Text appends the encoding of a string.
func (w *Writer) Text(s string) {
	if w.stopped() {
		return
	}
	w.put(encoded(len(s)), s)
}

// Flag appends the encoding of a flag.
func (w *Writer) Flag(b bool) {
	if b {
		w.Num(1)
	} else {
		w.Num(0)
	}
}

// Bytes returns all that was appended, or the error of the first fault.
func (w *Writer) Bytes() (string, api.Errno) {
	if w == nil {
		return "", api.ErrArg
	}
	return string(w.out), w.fault
}

// put appends the two parts of an encoding, or none of them if there would be too many bytes.
func (w *Writer) put(head []byte, tail string) {
	if len(head)+len(tail) > api.MaxText-len(w.out) {
		w.stop(api.ErrLong)
		return
	}
	w.out = append(w.out, head...)
	w.out = append(w.out, tail...)
}

// stop remembers the first fault, after which the bytes are of no use.
func (w *Writer) stop(fault api.Errno) {
	w.out, w.fault = nil, fault
}

// stopped returns whether nothing is appended any more.
func (w *Writer) stopped() bool { return w == nil || w.fault != api.OK }
