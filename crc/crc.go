// Package crc is layer 1: see shared/doc/01-crc.md.
package crc

import "math/bits"

const (
	turned  = 0x82f63b78 // the bits that a step turns (Castagnoli's, the lowest one first)
	shifted = 15
	more    = 0xa282ead8
)

// short is how many bytes a text must have that making the whole table is less work than stepping each of its bytes.
const short = 256

// Table: what a byte does to a sum.
func Table() [256]uint32 {
	var t [256]uint32
	for i := range len(t) {
		t[i] = number(byte(i))
	}
	return t
}

// Add: a sum that goes on.
func Add(sum uint32, s string) uint32 {
	if len(s) < short {
		return ^addStepped(^sum, s)
	}
	return ^addByTable(^sum, s)
}

// Of: a text's sum.
func Of(s string) uint32 { return Add(0, s) }

// Mask: a sum that may stand in what is summed.
func Mask(n uint32) uint32 { return bits.RotateLeft32(n, -shifted) + more }

// Unmask: the sum that was masked.
func Unmask(n uint32) uint32 { return bits.RotateLeft32(n-more, shifted) }

// Whole: is it a text's sum, masked?
func Whole(s string, masked uint32) bool { return Mask(Of(s)) == masked }

// number: the table's number of a byte.
func number(b byte) uint32 {
	n := uint32(b)
	left := 8
step:
	low := n & 1
	n >>= 1
	if low == 1 {
		n ^= turned
	}
	left--
	if left > 0 {
		goto step
	}
	return n
}

func addStepped(n uint32, s string) uint32 {
	for i := range len(s) {
		n = number(byte(n)^s[i]) ^ n>>8
	}
	return n
}

func addByTable(n uint32, s string) uint32 {
	t := Table()
	for i := range len(s) {
		n = t[byte(n)^s[i]] ^ n>>8
	}
	return n
}
