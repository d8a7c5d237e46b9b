// Package octets is numbers in bytes, the highest first.
package octets

import (
	"signalbox/api"
)

// most is how many bytes the widest number has.
const most = 8

// Put is a number in so many bytes.
func Put(x uint64, n int) []byte {
	if !fits(n) {
		return nil
	}
	b := make([]byte, n)
	for i := range n {
		b[i] = byte(x >> (8 * (n - 1 - i)))
	}
	return b
}

// Get is the number in the first bytes, and those behind.
func Get(b []byte, n int) (uint64, []byte, api.Errno) {
	if !fits(n) {
		return 0, nil, api.ErrArg
	}
	if len(b) < n {
		return 0, nil, api.ErrShort
	}
	var x uint64
	for i := range n {
		x = x<<8 | uint64(b[i])
	}
	return x, b[n:], api.OK
}

// Take are so many bytes, and those behind.
func Take(b []byte, n uint64) ([]byte, []byte, api.Errno) {
	// The length is widened, not n narrowed: n may be above every int.
	if uint64(len(b)) < n {
		return nil, nil, api.ErrShort
	}
	first := make([]byte, n)
	copy(first, b)
	return first, b[n:], api.OK
}

// Signed is a number of so many bytes below 0, or not.
func Signed(x uint64, n int) int64 {
	if !fits(n) {
		return 0
	}
	// Shifting up drops the bytes that don't count and lays the sign where
	// int64 has its own, so that shifting down again spreads it.
	spare := 8 * (most - n)
	return int64(x<<spare) >> spare
}

// fits tells whether a number may have so many bytes.
func fits(n int) bool {
	return n >= 1 && n <= most
}
