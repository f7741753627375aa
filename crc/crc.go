// Package crc reckons the sum that stands behind a frame.
package crc

import (
	"bytes"

	"bargate/api"
)

// Size is how many bytes the sum has.
const Size = 4

// halfSums: what the division leaves of each half byte, its lowest bit first; so small a table does two steps a byte.
var halfSums = [16]uint32{
	0x00000000, 0x1DB71064, 0x3B6E20C8, 0x26D930AC,
	0x76DC4190, 0x6B6B51F4, 0x4DB26158, 0x5005713C,
	0xEDB88320, 0xF00F9344, 0xD6D6A3E8, 0xCB61B38C,
	0x9B64C2B0, 0x86D3D2D4, 0xA00AE278, 0xBDBDF21C,
}

// Sum: the sum of bytes, piece by piece.
func Sum(pieces ...[]byte) uint32 {
	// The first 32 bits are turned by what the division begins with, the 32 that are left at its end.
	left := ^uint32(0)
	for _, p := range pieces {
		left = divide(left, p)
	}
	return ^left
}

// divide: the division goes on with more bytes.
func divide(left uint32, b []byte) uint32 {
	for _, x := range b {
		left ^= uint32(x)
		left = left>>4 ^ halfSums[left&15]
		left = left>>4 ^ halfSums[left&15]
	}
	return left
}

// Seal: bytes with their sum behind them, its lowest byte first.
func Seal(b []byte) []byte {
	sealed := make([]byte, 0, len(b)+Size)
	sealed = append(sealed, b...)
	sum := Sum(b)
	for i := range Size {
		sealed = append(sealed, byte(sum>>(8*i)))
	}
	return sealed
}

// Open: bytes without the sum behind them; ErrShort: there is none; ErrSum: it isn't theirs.
func Open(b []byte) ([]byte, api.Errno) {
	split := len(b) - Size
	if split < 0 {
		return nil, api.ErrShort
	}
	// Sealed anew: what ought to stand there, and the memory of the answer at once.
	own := Seal(b[:split])
	if !bytes.Equal(own, b) {
		return nil, api.ErrSum
	}
	// The third index keeps the sum out of the spare room of what is answered.
	return own[:split:split], api.OK
}
