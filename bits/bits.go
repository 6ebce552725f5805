// Package bits is layer 1: see shared/doc/01-bits.md.
package bits

import (
	mathbits "math/bits"

	"stoa/api"
)

const maxWidth = 64

// Width is the least width that holds all numbers.
func Width(vs ...uint64) int {
	var all uint64
	for i := range len(vs) {
		all |= vs[i]
	}
	return mathbits.Len64(all)
}

// Pack packs numbers.
func Pack(width int, vs ...uint64) ([]byte, api.Errno) {
	if !isWidth(width) {
		return nil, api.ErrArg
	}
	if len(vs) > api.MaxValues {
		return nil, api.ErrLong
	}
	if Width(vs...) > width {
		return nil, api.ErrBits
	}
	b := make([]byte, bytesFor(width, len(vs)))
	for i := range len(vs) {
		lay(b, place(width, i), width, vs[i])
	}
	return b, api.OK
}

// Unpack unpacks n numbers.
func Unpack(b []byte, width, n int) ([]uint64, api.Errno) {
	if !isWidth(width) || n < 0 || n > api.MaxValues {
		return nil, api.ErrArg
	}
	need := bytesFor(width, n)
	if len(b) < need {
		return nil, api.ErrShort
	}
	if len(b) > need {
		return nil, api.ErrTrail
	}
	// Bits that belong to no number would let one list be written in several ways.
	if used := place(width, n) % 8; used > 0 && b[need-1]>>used != 0 {
		return nil, api.ErrForm
	}
	vs := make([]uint64, n)
	for i := range n {
		vs[i] = read(b, place(width, i), width)
	}
	return vs, api.OK
}

// At reads one number of a row.
func At(b []byte, width, i int) (uint64, bool) {
	if !isWidth(width) || i < 0 {
		return 0, false
	}
	if width == 0 {
		return 0, true
	}
	// Divided, not multiplied: the bits in front of a far number may be more than can be counted.
	if uint64(i) >= uint64(len(b))*8/uint64(width) {
		return 0, false
	}
	return read(b, place(width, i), width), true
}

func isWidth(width int) bool {
	return 0 <= width && width <= maxWidth
}

// place is the first bit of the i-th number. It has 64 bits wherever the program runs: a long row has more bits than an int of 32 counts.
func place(width, i int) uint64 {
	return uint64(width) * uint64(i)
}

func bytesFor(width, n int) int {
	return int((place(width, n) + 7) / 8)
}

// lay writes a number of no more than width bits where all bits are still 0.
func lay(b []byte, at uint64, width int, v uint64) {
	for done := 0; done < width; {
		k := at + uint64(done)
		b[k/8] |= byte(v >> done << (k % 8))
		done += 8 - int(k%8)
	}
}

// read reads a number whose bits all lie in b.
func read(b []byte, at uint64, width int) uint64 {
	var v uint64
	for done := 0; done < width; {
		k := at + uint64(done)
		v |= uint64(b[k/8]>>(k%8)) << done
		done += 8 - int(k%8)
	}
	// The last byte may hold the beginning of the next number, too.
	return v & (1<<width - 1)
}

// Fold folds the sign into the lowest bit.
func Fold(v int64) uint64 {
	return uint64(v)<<1 ^ uint64(v>>63)
}

// Unfold turns Fold back.
func Unfold(u uint64) int64 {
	return int64(u>>1) ^ -int64(u&1)
}

// Narrow is the number that the lowest bytes write.
func Narrow(v int64, size int) (int64, bool) {
	var low int64
	switch size {
	case 1:
		low = int64(int8(v))
	case 2:
		low = int64(int16(v))
	case 4:
		low = int64(int32(v))
	case 8:
		low = v
	default:
		return 0, false
	}
	return low, low == v
}

// Flip turns the sign's bit.
func Flip(v int64) uint64 {
	return uint64(v) ^ 1<<63
}

// Unflip turns Flip back.
func Unflip(u uint64) int64 {
	return int64(u ^ 1<<63)
}
