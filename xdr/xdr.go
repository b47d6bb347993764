// Package xdr is layer 1: numbers and texts, the greatest part first.
package xdr

import "truchman/api"

// U32 is b, and the four bytes of n behind it.
func U32(b []byte, n uint32) []byte {
	return append(fixed(b), byte(n>>24), byte(n>>16), byte(n>>8), byte(n))
}

// U64 is b, and the eight bytes of n behind it.
func U64(b []byte, n uint64) []byte {
	return U32(U32(b, uint32(n>>32)), uint32(n))
}

// Text is b, and behind it the length of s, s, and the bytes 0 that fill it up.
func Text(b []byte, s []byte) []byte {
	b = append(U32(b, uint32(len(s))), s...)
	for range padding(len(s)) {
		b = append(b, 0)
	}
	return b
}

// Bool is b, and behind it the number of a yes or no.
func Bool(b []byte, is bool) []byte {
	if is {
		return U32(b, 1)
	}
	return U32(b, 0)
}

// fixed is b without its spare room, so that whatever is put behind it comes to new memory.
func fixed(b []byte) []byte {
	return b[:len(b):len(b)]
}

// padding is how many bytes 0 stand behind a text of n bytes.
func padding(n int) int {
	return (4 - n%4) % 4
}

// fault is the first error of what is read.
type fault struct {
	first api.Errno
}

// Reader reads bytes from their first one on.
type Reader struct {
	fault
	rest []byte
}

// Read is a reader of b as it is now.
func Read(b []byte) *Reader {
	return &Reader{rest: append([]byte(nil), b...)}
}

// U32 is the next number of 32 bits.
func (r *Reader) U32() uint32 {
	b, ok := r.take(4)
	if !ok {
		return 0
	}
	return uint32(b[0])<<24 | uint32(b[1])<<16 | uint32(b[2])<<8 | uint32(b[3])
}

// U64 is the next number of 64 bits.
func (r *Reader) U64() uint64 {
	if len(r.rest) < 8 {
		r.fail(api.ErrShort)
		return 0
	}
	high := uint64(r.U32())
	return high<<32 | uint64(r.U32())
}

// Text is the next text, which has at most so many bytes.
func (r *Reader) Text(most int) []byte {
	n := int(r.U32())
	if n > most {
		r.fail(api.ErrRange)
	}
	b, ok := r.take(n + padding(n))
	if !ok {
		return nil
	}
	for _, c := range b[n:] {
		if c != 0 {
			r.fail(api.ErrForm)
			return nil
		}
	}
	return append([]byte(nil), b[:n]...)
}

// Bool is the next yes or no.
func (r *Reader) Bool() bool {
	n := r.U32()
	if n > 1 {
		r.fail(api.ErrForm)
	}
	return n == 1
}

// Left is how many bytes are left; none are behind an error.
func (r *Reader) Left() int {
	return len(r.rest)
}

// Errno is OK, or the first error.
func (r *Reader) Errno() api.Errno {
	return r.first
}

// End is the first error; bytes that are left are one, too.
func (r *Reader) End() api.Errno {
	if len(r.rest) > 0 { // none are behind an error
		return api.ErrForm
	}
	return r.first
}

// take is the next n bytes, behind which the reader is then; none, and false, if there are fewer, as behind an error.
func (r *Reader) take(n int) ([]byte, bool) {
	if len(r.rest) < n {
		r.fail(api.ErrShort)
		return nil, false
	}
	b := r.rest[:n]
	r.rest = r.rest[n:]
	return b, true
}

// fail keeps the first error alone; what was left is not read any more.
func (r *Reader) fail(e api.Errno) {
	if r.first == api.OK {
		r.first = e
	}
	r.rest = nil
}
