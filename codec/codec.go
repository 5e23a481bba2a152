// Package codec is layer 1: numbers of fixed length, checksums, and frames (shared/doc/01-codec.md).
package codec

import "pagemend/api"

const (
	maxNumber  = 8                 // bytes of a number
	lengthSize = 4                 // bytes of the length of a payload
	sumSize    = 4                 // bytes of a checksum
	maxPayload = api.MaxBlob + 200 // bytes of a payload
)

// remainders are what the polynomial 0x82F63B78 (reflected) leaves of each half byte.
var remainders = [16]uint32{
	0x00000000, 0x105EC76F, 0x20BD8EDE, 0x30E349B1,
	0x417B1DBC, 0x5125DAD3, 0x61C69362, 0x7198540D,
	0x82F63B78, 0x92A8FC17, 0xA24BB5A6, 0xB21572C9,
	0xC38D26C4, 0xD3D3E1AB, 0xE330A81A, 0xF36E6F75,
}

// Put returns s with the lowest size bytes of n behind it, the lowest first; s alone if size is not from 1 to 8.
func Put(s string, n, size int) string {
	if !validSize(size) {
		return s
	}
	var b [maxNumber]byte
	for i := range size {
		b[i] = byte(n >> (8 * i))
	}
	return s + string(b[:size])
}

// Get returns the number in the size bytes of s from the index at on: unsigned for sizes below 8, in two's complement for 8.
func Get(s string, at, size int) (int, api.Errno) {
	if !validSize(size) || at < 0 {
		return 0, api.ErrRange
	}
	if at > len(s)-size { // at+size might overflow
		return 0, api.ErrShort
	}
	n := 0
	for i := range size {
		n |= int(s[at+i]) << (8 * i)
	}
	return n, api.OK
}

// validSize reports whether a number may have this many bytes.
func validSize(size int) bool { return size >= 1 && size <= maxNumber }

// Sum returns the checksum CRC-32C of s.
func Sum(s string) uint32 {
	c := ^uint32(0)
	for i := range len(s) {
		c ^= uint32(s[i])
		c = shiftHalf(shiftHalf(c))
	}
	return ^c
}

// shiftHalf divides the lowest half byte of a remainder away.
func shiftHalf(c uint32) uint32 { return c>>4 ^ remainders[c&15] }

// Frame returns the length of the payload, the payload, and the checksum of both; an empty string if the payload is too long.
func Frame(payload string) string {
	if len(payload) > maxPayload {
		return ""
	}
	s := Put("", len(payload), lengthSize) + payload
	return Put(s, int(Sum(s)), sumSize)
}

// Unframe returns the payload of the frame that begins at the index at of s, and the index behind the frame.
func Unframe(s string, at int) (payload string, next int, e api.Errno) {
	if at < 0 || at > len(s) {
		return "", 0, api.ErrRange
	}
	length, e := Get(s, at, lengthSize)
	if e != api.OK {
		return "", 0, e
	}
	if length > maxPayload {
		return "", 0, api.ErrSize
	}
	from := at + lengthSize
	end := from + length
	sum, e := Get(s, end, sumSize)
	if e != api.OK {
		return "", 0, e
	}
	if sum != int(Sum(s[at:end])) {
		return "", 0, api.ErrSum
	}
	return s[from:end], end + sumSize, api.OK
}
