package wire

import (
	"bytes"

	"palimpsest/api"
)

const (
	poly     = 0xedb88320 // CRC-32's polynomial, its lowest power in the highest bit
	byteBits = 8

	checkSize = 4
	headSize  = 6 // the check, and how many bytes are in the box
)

// Check is the CRC-32 of parts, one behind the other.
func Check(parts ...[]byte) uint32 {
	reg := ^uint32(0)
	for _, part := range parts {
		for _, c := range part {
			reg = shift(reg ^ uint32(c))
		}
	}
	return ^reg
}

// shift takes a byte's bits out of the register.
func shift(reg uint32) uint32 {
	for range byteBits {
		if reg&1 == 1 {
			reg = reg>>1 ^ poly
		} else {
			reg >>= 1
		}
	}
	return reg
}

// putHigh fills out with a number's bytes, the highest first.
func putHigh(out []byte, n uint32) {
	for i := range out {
		out[len(out)-1-i] = byte(n >> (byteBits * i))
	}
}

// takeHigh is the number of bytes, the highest first.
func takeHigh(b []byte) uint32 {
	var n uint32
	for _, c := range b {
		n = n<<byteBits | uint32(c)
	}
	return n
}

// fits tells whether parts find room together.
func fits(room int, parts [][]byte) bool {
	for _, part := range parts {
		if len(part) > room {
			return false
		}
		room -= len(part)
	}
	return true
}

// Box is a box of size bytes with the parts in it, one behind the other.
func Box(size int, parts ...[]byte) ([]byte, error) {
	if size < headSize || size > api.MaxBox {
		return nil, api.ErrRange
	}
	// The greatest box has room for 65530 bytes: what fits is always told in the two bytes of the head.
	if !fits(size-headSize, parts) {
		return nil, api.ErrForm
	}
	box := make([]byte, size)
	end := headSize
	for _, part := range parts {
		end += copy(box[end:], part)
	}
	putHigh(box[checkSize:headSize], uint32(end-headSize))
	putHigh(box[:checkSize], Check(box[checkSize:]))
	return box, nil
}

// Unbox is what is in a box.
func Unbox(box []byte) ([]byte, error) {
	if len(box) < headSize || len(box) > api.MaxBox {
		return nil, api.ErrBox
	}
	if takeHigh(box[:checkSize]) != Check(box[checkSize:]) {
		return nil, api.ErrBox
	}
	count, in := int(takeHigh(box[checkSize:headSize])), box[headSize:]
	// A check can be good without Box having made it, so the rest of the form is held against it too.
	if count > len(in) || !blank(in[count:]) {
		return nil, api.ErrBox
	}
	return bytes.Clone(in[:count]), nil
}

// blank tells whether all bytes are 0.
func blank(b []byte) bool {
	for _, c := range b {
		if c != 0 {
			return false
		}
	}
	return true
}
