// Package crc is layer 1: check sums of bytes, and which changes they find (shared/doc/01-crc.md).
package crc

import (
	"iter"
	"strings"

	"rostrum/api"
)

const (
	poly     = 0xedb88320
	wordBits = 32
	byteBits = 8
	size     = wordBits / byteBits // a number's bytes
)

// Step is one step of a sum, with one byte.
func Step(s uint32, b byte) uint32 {
	s ^= uint32(b)
	for range byteBits {
		// A mask in place of a branch: the bits of a sum are as good as random, so that a branch is guessed wrong half the time.
		s = s>>1 ^ poly&-(s&1)
	}
	return s
}

// Sum is the sum of bytes.
func Sum(s string) uint32 {
	// The sum of no bytes is 0: all bits set, and turned over.
	return More(0, s)
}

// More is the sum of bytes of which the first ones are told by their sum alone.
func More(sum uint32, s string) uint32 {
	// Turned over, a sum is what it was behind the last step.
	sum = ^sum
	for _, b := range bytesOf(s) {
		sum = Step(sum, b)
	}
	return ^sum
}

// Change turns over the bits of s that a mask names, the mask's least bit lying at the given one.
func Change(s string, bit int, mask uint32) (string, api.Errno) {
	// Divided, since eight times a length may be too much for an int.
	first := bit / byteBits
	if bit < 0 || first >= len(s) {
		return "", api.ErrArg
	}
	var turned []byte
bytes:
	for at, b := range bytesOf(s[first:]) {
		turned = append(turned, b)
		for k := range byteBits {
			place := byteBits*at + k - bit%byteBits
			if place < 0 {
				continue
			}
			if place >= wordBits {
				break bytes
			}
			turned[at] ^= byte(mask>>place&1) << k
		}
	}
	// There is at least one byte between the two pieces, so that the answer is always new memory.
	return s[:first] + text(turned...) + s[first+len(turned):], api.OK
}

// Put is a number in four bytes, the least first.
func Put(n uint32) string {
	return text(byte(n), byte(n>>8), byte(n>>16), byte(n>>24))
}

// Get is the number of four bytes.
func Get(s string) (uint32, api.Errno) {
	if len(s) != size {
		return 0, api.ErrArg
	}
	var n uint32
	for at, b := range bytesOf(s) {
		n |= uint32(b) << (byteBits * at)
	}
	return n, api.OK
}

// Seal is s with its sum behind it.
func Seal(s string) string {
	return s + Put(Sum(s))
}

// Open is what was sealed, and whether it was.
func Open(s string) (string, bool) {
	cut := len(s) - size
	if cut < 0 || s[cut:] != Put(Sum(s[:cut])) {
		return "", false
	}
	// A copy, since an answer shares no memory with what was handed in.
	return strings.Clone(s[:cut]), true
}

// bytesOf goes through bytes, each with its place.
func bytesOf(s string) iter.Seq2[int, byte] {
	return func(yield func(int, byte) bool) {
		for at := range len(s) {
			if !yield(at, s[at]) {
				return
			}
		}
	}
}

// text is bytes as a text.
func text(bytes ...byte) string {
	return string(bytes)
}
