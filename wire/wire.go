// Package wire: how numbers and texts are written down as bytes.
package wire

// Join writes parts one behind the other, always into new memory: a part
// that comes from a caller must not live on in what is answered.
func Join(parts ...string) string {
	size := 0
	for _, part := range parts {
		size += len(part)
	}
	out := make([]byte, 0, size)
	for _, part := range parts {
		out = append(out, part...)
	}
	return string(out)
}

// Two is the document's [n]; it is asked only for numbers from 0 to 65535.
func Two(n int) string {
	return string([]byte{byte(n), byte(n >> 8)})
}
