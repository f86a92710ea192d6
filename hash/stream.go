package hash

// blockSize is the number of bytes that are compressed at once.
const blockSize = 64

// padding is what may follow the content ahead of its length: a bit 1, then bits 0.
const padding = "\x80" +
	"\x00\x00\x00\x00\x00\x00\x00\x00\x00\x00\x00\x00\x00\x00\x00\x00\x00\x00\x00\x00\x00" +
	"\x00\x00\x00\x00\x00\x00\x00\x00\x00\x00\x00\x00\x00\x00\x00\x00\x00\x00\x00\x00\x00" +
	"\x00\x00\x00\x00\x00\x00\x00\x00\x00\x00\x00\x00\x00\x00\x00\x00\x00\x00\x00\x00\x00"

// Stream computes the digest of a content that is written piece by piece. The zero Stream has no content.
type Stream struct {
	state
	block [blockSize]byte // begins with the bytes that wait for their block to be full
	size  uint64          // bytes of content
}

// New returns a stream without content.
func New() *Stream { return &Stream{} }

// Write appends t to the content. On a nil stream it does nothing.
func (s *Stream) Write(t string) {
	if s == nil || t == "" {
		return
	}
	if s.size == 0 {
		s.state = start // here and not in New, so that the zero Stream works as well
	}
	for t != "" {
		n := copy(s.block[s.size%blockSize:], t)
		t = t[n:]
		s.size += uint64(n)
		if s.size%blockSize == 0 {
			s.compress(s.block)
		}
	}
}

// Sum returns the digest of the content, and "" on a nil stream.
func (s *Stream) Sum() string {
	if s == nil {
		return ""
	}
	end := *s // a copy, so that more can be written to s afterwards
	end.pad()
	return end.digest()
}

// pad completes the last block: the padding as long as needed, then the number of bits of the content.
func (s *Stream) pad() {
	length := eight(8 * s.size)
	zeros := (2*blockSize - 1 - 8 - s.size%blockSize) % blockSize
	s.Write(padding[:1+zeros])
	s.Write(length)
}
