// Package vint is layer 2: see shared/doc/02-vint.md.
package vint

import (
	"math/bits"

	"stoa/api"
)

const (
	maxSize = 10   // bytes of the greatest number
	more    = 0x80 // added to a byte behind which another one stands
)

// Put is the number's bytes.
func Put(u uint64) []byte {
	return add(nil, u)
}

func add(b []byte, u uint64) []byte {
	for range Size(u) - 1 {
		b = append(b, byte(u)|more)
		u >>= 7
	}
	return append(b, byte(u))
}

// Size is how many bytes the number has.
func Size(u uint64) int {
	// 0 has no bits, but a byte.
	return (bits.Len64(u|1) + 6) / 7
}

// Get reads a number.
func Get(b []byte, at int) (uint64, int, api.Errno) {
	if at < 0 || at > len(b) {
		return 0, 0, api.ErrArg
	}
	var u uint64
	for i, c := range b[at:] {
		// Nine bytes hold 63 bits: the tenth has room for one more, and for no byte behind it.
		if i == maxSize-1 && c > 1 {
			return 0, 0, api.ErrWide
		}
		u |= uint64(c&^more) << (7 * i)
		if c >= more {
			continue
		}
		if c == 0 && i > 0 {
			return 0, 0, api.ErrForm
		}
		return u, at + i + 1, api.OK
	}
	return 0, 0, api.ErrShort
}

// PutList is a list's bytes.
func PutList(us ...uint64) []byte {
	b := Put(uint64(len(us)))
	for i := range len(us) {
		b = add(b, us[i])
	}
	return b
}

// GetList reads a list.
func GetList(b []byte, at, most int) ([]uint64, int, api.Errno) {
	count, at, err := Get(b, at)
	if err != api.OK {
		return nil, 0, err
	}
	if count > uint64(max(most, 0)) {
		return nil, 0, api.ErrLong
	}
	// No room is made ahead: the count may say far more than there is.
	var us []uint64
	for range count {
		u, next, err := Get(b, at)
		if err != api.OK {
			return nil, 0, err
		}
		us = append(us, u)
		at = next
	}
	return us, at, api.OK
}
