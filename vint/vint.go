// Package vint is layer 1: numbers in as few bytes as there may be.
package vint

import (
	"math/bits"

	"packetboat/api"
)

// most is how many bytes the greatest number has.
const most = 10

// Put tells a number's bytes.
func Put(n uint64) []byte { return put(nil, n) }

func put(b []byte, n uint64) []byte {
	for n >= 128 {
		b = append(b, byte(n)|128)
		n >>= 7
	}
	return append(b, byte(n))
}

// Take tells the number that bytes begin with, and how many bytes it has.
func Take(b []byte) (uint64, int, api.Errno) {
	last := -1
look:
	for i, x := range b {
		switch {
		case i == most:
			break look
		case x < 128:
			last = i
			break look
		}
	}
	switch {
	case last < 0 && len(b) < most:
		return 0, 0, api.ErrShort
	case last < 0, last > 0 && b[last] == 0, last == most-1 && b[last] > 1: // the tenth byte has the 64th bit alone
		return 0, 0, api.ErrForm
	}
	var n uint64
	for i := last; i >= 0; i-- {
		n = n<<7 | uint64(b[i]&127)
	}
	return n, last + 1, api.OK
}

// Size tells how many bytes a number has.
func Size(n uint64) int { return (bits.Len64(n|1) + 6) / 7 }

// Zig tells by which number one with a sign is told.
func Zig(n int64) uint64 {
	if n < 0 {
		return ^(uint64(n) << 1) // -2n - 1, which fits where -2n doesn't
	}
	return uint64(n) << 1
}

// Zag tells the number with a sign that is told by one.
func Zag(n uint64) int64 {
	if n&1 == 1 {
		return int64(^(n >> 1))
	}
	return int64(n >> 1)
}

// PutSigned tells the bytes of a number with a sign.
func PutSigned(n int64) []byte { return Put(Zig(n)) }

// TakeSigned tells the number with a sign that bytes begin with, and how many bytes it has.
func TakeSigned(b []byte) (int64, int, api.Errno) {
	n, size, e := Take(b)
	if e != api.OK {
		return 0, 0, e
	}
	return Zag(n), size, api.OK
}

// All tells the bytes of all numbers, one behind the other.
func All(l ...uint64) []byte {
	var b []byte
	for _, n := range l {
		b = put(b, n)
	}
	return b
}
