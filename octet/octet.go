// Package octet puts numbers into bytes, and takes them out.
package octet

import "bargate/api"

// MaxBytes is how many bytes a number has at most.
const MaxBytes = 8

// wordBits is how many bits a number has.
const wordBits = 64

// Put: a number as so many bytes, the highest first; ErrRange, if it has no room in them, or there can't be so many.
func Put(n uint64, size int) ([]byte, api.Errno) {
	if !isSize(size) || n>>(8*size) != 0 {
		return nil, api.ErrRange
	}
	b := make([]byte, size)
	for i := range size {
		b[size-1-i] = byte(n >> (8 * i))
	}
	return b, api.OK
}

// Get: the number of so many bytes from a place on, the highest first.
func Get(b []byte, at, size int) (uint64, api.Errno) {
	if !isSize(size) || at < 0 {
		return 0, api.ErrRange
	}
	// What is left is held against size: at+size could wrap round.
	if len(b)-at < size {
		return 0, api.ErrShort
	}
	var n uint64
	for i := range size {
		n = n<<8 | uint64(b[at+i])
	}
	return n, api.OK
}

func isSize(size int) bool { return size >= 1 && size <= MaxBytes }

// Turn: bytes the other way round.
func Turn(b []byte) []byte {
	turned := make([]byte, len(b))
	for i := range len(b) {
		turned[len(b)-1-i] = b[i]
	}
	return turned
}

// Join: pieces behind each other.
func Join(pieces ...[]byte) []byte {
	size := 0
	for _, p := range pieces {
		size += len(p)
	}
	joined := make([]byte, 0, size)
	for _, p := range pieces {
		joined = append(joined, p...)
	}
	return joined
}

// Bit: the bit of a number at a place, from the lowest on.
func Bit(n uint64, at int) bool {
	return at >= 0 && at < wordBits && n>>at&1 == 1
}

// Bits: the bits of a number from one place up to another one, as a number; 0: there are none.
func Bits(n uint64, from, to int) uint64 {
	if from < 0 || to > wordBits || from >= to {
		return 0
	}
	// A shift by all 64 bits leaves 0, so that the mask of them all comes out right too.
	mask := uint64(1)<<(to-from) - 1
	return n >> from & mask
}

// Pack: numbers of so many bits each, the first one in the highest bits; ErrRange, if one has no room, or all have more than 64.
func Pack(pairs ...[2]uint64) (uint64, api.Errno) {
	var packed uint64
	left := uint64(wordBits)
	for _, pair := range pairs {
		n, size := pair[0], pair[1]
		// Held against what is left, since a sum of sizes could wrap round.
		if size > left || n>>size != 0 {
			return 0, api.ErrRange
		}
		left -= size
		packed = packed<<size | n
	}
	return packed, api.OK
}

// Reader takes numbers and bytes one behind the other; behind the first error nothing more.
type Reader struct {
	rest []byte
	err  api.Errno
}

// Read: a reader of bytes.
func Read(b []byte) *Reader { return &Reader{rest: b} }

// Number: the next so many bytes as a number; 0 with an error.
func (r *Reader) Number(size int) uint64 {
	if r.err != api.OK {
		return 0
	}
	n, err := Get(r.rest, 0, size)
	if err != api.OK {
		r.err = err
		return 0
	}
	r.rest = r.rest[size:]
	return n
}

// Take: the next so many bytes, of their own; none with an error.
func (r *Reader) Take(n int) []byte {
	if r.err != api.OK {
		return nil
	}
	if n < 0 {
		r.err = api.ErrRange
		return nil
	}
	if n > len(r.rest) {
		r.err = api.ErrShort
		return nil
	}
	taken := Join(r.rest[:n])
	r.rest = r.rest[n:]
	return taken
}

// Left: how many bytes are left. Err: the first error.
func (r *Reader) Left() int { return len(r.rest) }

func (r *Reader) Err() api.Errno { return r.err }
