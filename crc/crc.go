// Package crc is layer 1: the check sum of pages (CRC-32C), see shared/doc/01-crc.md.
package crc

import (
	"bytes"
	"slices"
)

// turning has the bits that are turned in the register when the bits compared weren't the same.
const turning uint32 = 0x82F63B78

// Sum: the check sum of all parts' bytes, one behind the other.
func Sum(parts ...[]byte) uint32 {
	var r Register
	return r.Add(parts...).Sum()
}

// Register is told bytes; the zero Register was told nothing.
type Register struct{ bits }

// Add: the register is told the parts' bytes; it.
func (r *Register) Add(parts ...[]byte) *Register {
	if r == nil {
		return nil
	}
	r.tell(parts)
	return r
}

// Sum: the sum of all that the register was told.
func (r *Register) Sum() uint32 {
	if r == nil {
		return Sum()
	}
	return r.turned
}

// Len: how many bytes the register was told.
func (r *Register) Len() int {
	if r == nil {
		return 0
	}
	return r.told
}

// Mark: b, and its sum behind it, the lowest byte first.
func Mark(b []byte) []byte {
	end := ending(Sum(b))
	return slices.Concat(b, end[:])
}

// Holds: are the last four bytes the sum of all ahead of them?
func Holds(b []byte) bool {
	cut := len(b) - 4
	if cut < 0 {
		return false
	}
	return [4]byte(b[cut:]) == ending(Sum(b[:cut]))
}

// Turn: b with the bits of by turned in the byte at that place, if there is such a place.
func Turn(b []byte, at int, by byte) []byte {
	t := bytes.Clone(b)
	if at >= 0 && at < len(t) {
		t[at] ^= by
	}
	return t
}

// ending: a sum as the four bytes that stand behind what is marked.
func ending(sum uint32) [4]byte {
	return [4]byte{byte(sum), byte(sum >> 8), byte(sum >> 16), byte(sum >> 24)}
}

// bits is what a register has come to. The 32 bits are kept turned: at the
// beginning all of them are 1, so the zero value stands for just that.
type bits struct {
	turned uint32
	told   int
}

func (b *bits) tell(parts [][]byte) {
	table := steps()
	register := ^b.turned
	for _, part := range parts {
		for _, c := range part {
			register = register>>8 ^ table[byte(register)^c]
		}
		b.told += len(part)
	}
	b.turned = ^register
}

// steps: for each byte, what its eight steps make of a register that is 0.
// Steps of bytes that are put together by turning are those of each put
// together, so only the eight bytes of one bit have to be stepped.
func steps() [256]uint32 {
	var table [256]uint32
	for bit := 1; bit < len(table); bit <<= 1 {
		alone := stepped(uint32(bit))
		for below := range bit {
			table[bit+below] = alone ^ table[below]
		}
	}
	return table
}

// stepped: the register behind eight bits that are 0.
func stepped(register uint32) uint32 {
	for range 8 {
		low := register & 1
		register >>= 1
		if low != 0 {
			register ^= turning
		}
	}
	return register
}
