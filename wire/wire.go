// Package wire: how numbers and texts are written down as bytes, and read
// again. The letters U, Z, X and B are the document's.
package wire

// more is set in each byte of U but the last; below it are seven bits.
const more = 0x80

// Join writes parts one behind the other, always into new memory: a part
// that comes from a caller must not live on in what is answered.
func Join(parts ...string) string {
	size := 0
	for _, part := range parts {
		size += len(part)
	}
	out := make([]byte, 0, size)
	for _, part := range parts {
		out = append(out, part...)
	}
	return string(out)
}

// Byte is one byte.
func Byte(b byte) string {
	return string([]byte{b})
}

// Two is the document's [n]; it is asked only for numbers from 0 to 65535.
func Two(n int) string {
	return string([]byte{byte(n), byte(n >> 8)})
}

// Number is U(n).
func Number(n uint64) string {
	var out []byte
	for n >= more {
		out = append(out, byte(n)|more)
		n >>= 7
	}
	return string(append(out, byte(n)))
}

// Count is U(n) of a number that is not below 0.
func Count(n int) string {
	return Number(uint64(n))
}

// Signed is Z(n).
func Signed(n int) string {
	if n >= 0 {
		return Number(uint64(n) * 2)
	}
	// -2n - 1 by its bits: 2n itself may be too small for 64 of them.
	return Number(^(uint64(n) * 2))
}

// Text is X(text).
func Text(text string) string {
	return Join(Count(len(text)), text)
}

// Eight is B(n).
func Eight(n int) string {
	var out [8]byte
	for i := range out {
		out[i] = byte(uint64(n) >> (8 * i))
	}
	return string(out[:])
}
