// Package seal: the sum of a text, and the bodies that are sealed by it.
// It takes its arguments as they come: the bounds are held at the face. Just
// those of a body are held here too, as the bodies in a file pass no face.
package seal

import (
	"coffer/api"
	"coffer/wire"
)

const tagSize = 2

// A body is as long as its plain text and its tag; no other one is opened.
const (
	MinBody = tagSize
	MaxBody = api.MaxLong + tagSize
)

// Sum is the sum of the text that the parts make one behind the other.
func Sum(parts ...string) int {
	return sumOn(1, parts...)
}

// sumOn goes on from the sum of what stands ahead, so that a beginning
// that many texts have in common is summed once.
func sumOn(sum int, parts ...string) int {
	for _, part := range parts {
		for i := range len(part) {
			sum = (sum*api.Factor + int(part[i]) + 1) % api.Prime
		}
	}
	return sum
}

// Body is the plain text sealed, bound to the extra text.
func Body(secret, nonce, extra, plain string) string {
	cipher := mask(secret, nonce, plain)
	return wire.Join(cipher, tag(secret, nonce, extra, cipher))
}

// Plain is the plain text that has this body, if one has.
func Plain(secret, nonce, extra, body string) (string, bool) {
	if len(body) < MinBody || len(body) > MaxBody {
		return "", false
	}
	end := len(body) - tagSize
	cipher := body[:end]
	if body[end:] != tag(secret, nonce, extra, cipher) {
		return "", false
	}
	return mask(secret, nonce, cipher), true
}

// mask makes the cipher of a plain text and, exclusive or being its own
// undoing, the plain text of a cipher.
func mask(secret, nonce, text string) string {
	start := Sum("K", secret, nonce)
	out := make([]byte, len(text))
	for i := range len(text) {
		out[i] = text[i] ^ byte(sumOn(start, wire.Two(i)))
	}
	return string(out)
}

func tag(secret, nonce, extra, cipher string) string {
	return wire.Two(Sum("T", secret, nonce, wire.Two(len(extra)), extra, cipher))
}
