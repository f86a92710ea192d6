package wal

import (
	"exchequer/api"
	"exchequer/pack"
	"exchequer/sum"
)

// maxData is how many bytes the Data of a valid record has at most.
const maxData = 1 << 17

// prefix is how many bytes stand ahead of a payload: its length and its checksum.
const prefix = 8

// valid returns whether r is a valid record.
func valid(r api.Record) bool {
	switch r.Kind {
	case api.RecHard, api.RecEntry, api.RecBase:
		return inRange(r.Index) && inRange(r.Term) && inRange(r.Vote) && len(r.Data) <= maxData
	}
	return false
}

// allValid returns whether all of l are valid records.
func allValid(l []api.Record) bool {
	for _, r := range l {
		if !valid(r) {
			return false
		}
	}
	return true
}

// inRange returns whether n is a number that a valid record can have.
func inRange(n int) bool { return n >= 0 && n <= api.MaxNum }

// header returns the record of a header with a count.
func header(count int) api.Record { return api.Record{Kind: api.RecStart, Index: count} }

// framed returns the frames of l, one after another.
func framed(l ...api.Record) string {
	var b []byte
	for _, r := range l {
		p := payload(r)
		b = appendNumber(b, uint32(len(p)))
		b = appendNumber(b, sum.Of([]byte(p)))
		b = append(b, p...)
	}
	return string(b)
}

// payload returns the payload of a valid record or of a header: a Writer takes all of these.
func payload(r api.Record) string {
	var w pack.Writer
	w.Num(r.Kind)
	w.Num(r.Index)
	w.Num(r.Term)
	w.Num(r.Vote)
	w.Text(r.Data)
	s, _ := w.Bytes()
	return s
}

// unframed returns the record, valid or not, with whose frame s begins, and how many bytes this frame has: 0 if s begins with none.
// A payload of more than 2^18 bytes needs no check of its own: with the longest Data and the greatest numbers it has fewer.
func unframed(s string) (api.Record, int) {
	if len(s) < prefix || uint64(numberOf(s)) > uint64(len(s)-prefix) {
		return api.Record{}, 0
	}
	end := prefix + int(numberOf(s))
	p := s[prefix:end]
	if numberOf(s[4:]) != sum.Of([]byte(p)) {
		return api.Record{}, 0
	}
	from := pack.Read(p)
	r := api.Record{Kind: from.Num(), Index: from.Num(), Term: from.Num(), Vote: from.Num(), Data: from.Text(maxData)}
	if from.End() != api.OK {
		return api.Record{}, 0
	}
	return r, end
}

// unbroken returns the valid records with whose frames s begins, and how many bytes these frames have.
func unbroken(s string) ([]api.Record, int) {
	var l []api.Record
	at := 0
	for {
		r, size := unframed(s[at:])
		if size == 0 || !valid(r) {
			return l, at
		}
		l = append(l, r)
		at += size
	}
}

// appendNumber appends the four bytes of n to b, most significant byte first.
func appendNumber(b []byte, n uint32) []byte {
	return append(b, byte(n>>24), byte(n>>16), byte(n>>8), byte(n))
}

// numberOf returns the number whose four bytes are the first of s.
func numberOf(s string) uint32 {
	return uint32(s[0])<<24 | uint32(s[1])<<16 | uint32(s[2])<<8 | uint32(s[3])
}
