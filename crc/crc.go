// Package crc is layer 1: see shared/doc/01-crc.md.
package crc

import "iter"

// steps holds for each half of a byte what four steps make of a register that is that half.
var steps = [16]uint32{
	0x00000000, 0x105ec76f, 0x20bd8ede, 0x30e349b1,
	0x417b1dbc, 0x5125dad3, 0x61c69362, 0x7198540d,
	0x82f63b78, 0x92a8fc17, 0xa24bb5a6, 0xb21572c9,
	0xc38d26c4, 0xd3d3e1ab, 0xe330a81a, 0xf36e6f75,
}

// Sum: the sum of bytes.
func Sum(b []byte) uint32 { return Extend(0, b) }

// Extend: the sum with more bytes behind.
func Extend(sum uint32, b []byte) uint32 {
	r := ^sum
	for h := range halves(b) {
		r = r>>4 ^ steps[(r^h)&15]
	}
	return ^r
}

// halves tells the halves of the bytes, the lower one first, because the sum takes a byte's lowest bit first.
func halves(b []byte) iter.Seq[uint32] {
	return func(yield func(uint32) bool) {
		for _, x := range b {
			if !yield(uint32(x&15)) || !yield(uint32(x>>4)) {
				return
			}
		}
	}
}
