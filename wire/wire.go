// Package wire is layer 1, numbers as bytes: see shared/doc/01-wire.md.
package wire

import (
	"iter"

	"tachograph/api"
)

const (
	groupBits = 7              // bits in a group
	more      = 1 << groupBits // added to each byte but the last one
	maxSize   = 10             // bytes of the longest numbers
	maxTenth  = 1              // the tenth group has one bit of the 64
)

// Put puts a number behind bytes.
func Put(b []byte, n uint64) []byte {
	// With room of its own from the start, an append never writes behind b in memory that b's owner has.
	out := make([]byte, 0, len(b)+Size(n))
	out = append(out, b...)
	for c := range written(n) {
		out = append(out, c)
	}
	return out
}

// Get is the number that bytes begin with.
func Get(b []byte) (uint64, int, api.Errno) {
	size, e := length(b)
	if e != api.OK {
		return 0, 0, e
	}
	n := uint64(0)
	for shift, group := range groups(b[:size]) {
		n |= group << shift
	}
	return n, size, api.OK
}

// Size is how many bytes a number has.
func Size(n uint64) int {
	size := 0
	for range written(n) {
		size++
	}
	return size
}

// Fold is a folded number.
func Fold(x int64) uint64 {
	if x < 0 {
		return 2*uint64(-1-x) + 1
	}
	return 2 * uint64(x)
}

// Unfold is the number of a folded one.
func Unfold(n uint64) int64 {
	if n%2 == 1 {
		return -1 - int64(n/2)
	}
	return int64(n / 2)
}

// written hands on a number's bytes, the lowest group of seven bits first.
func written(n uint64) iter.Seq[byte] {
	return func(yield func(byte) bool) {
		rest := n
		for rest >= more {
			if !yield(byte(rest%more) + more) {
				return
			}
			rest >>= groupBits
		}
		yield(byte(rest))
	}
}

// groups hands on the groups of seven bits of a number's bytes, each with how far up it belongs.
func groups(b []byte) iter.Seq2[int, uint64] {
	return func(yield func(int, uint64) bool) {
		for i, c := range b {
			if !yield(groupBits*i, uint64(c%more)) {
				return
			}
		}
	}
}

// length is how many bytes the number has that bytes begin with, or why there is none.
func length(b []byte) (int, api.Errno) {
	for i := range min(len(b), maxSize) {
		if b[i] < more {
			return i + 1, last(i, b[i])
		}
	}
	if len(b) >= maxSize {
		return 0, api.ErrLong
	}
	return 0, api.ErrShort
}

// last tells why a byte may not be a number's last one, at its place from 0 on.
func last(i int, c byte) api.Errno {
	if i == maxSize-1 && c > maxTenth {
		return api.ErrLong
	}
	// A last group of 0 adds nothing: the number has a shorter writing, and just that is taken.
	if i > 0 && c == 0 {
		return api.ErrForm
	}
	return api.OK
}
