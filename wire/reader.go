package wire

// GaveUp is what reading panics with when the bytes are not what they
// should be. Whoever reads for a caller catches it at the face.
const GaveUp = "wire: gave up"

// Need gives up unless ok holds.
func Need(ok bool) {
	if !ok {
		panic(GaveUp)
	}
}

// Reader reads a text from its beginning on. Each of its ways gives up if
// the text has no such thing next.
type Reader struct {
	text string
	at   int
}

func NewReader(text string) *Reader {
	return &Reader{text: text}
}

// Take reads n bytes, into new memory: what is read must not live in what
// was handed in.
func (r *Reader) Take(n int) string {
	Need(n <= len(r.text)-r.at)
	r.at += n
	return Join(r.text[r.at-n : r.at])
}

// At is how many bytes were read.
func (r *Reader) At() int {
	return r.at
}

// End gives up if anything is left.
func (r *Reader) End() {
	Need(r.at == len(r.text))
}

func (r *Reader) Byte() byte {
	Need(r.at < len(r.text))
	r.at++
	return r.text[r.at-1]
}

// Two reads the document's [n].
func (r *Reader) Two() int {
	low := r.Byte()
	return int(low) | int(r.Byte())<<8
}

// Number reads U of a number.
func (r *Reader) Number() uint64 {
	n := uint64(0)
	for shift := 0; ; shift += 7 {
		b := r.Byte()
		// Of 64 bits one is left for the tenth byte, and none for another.
		Need(shift < 63 || b <= 1)
		n |= uint64(b&^more) << shift
		if b < more {
			// A last byte 0 behind others is a byte more than needed.
			Need(b > 0 || shift == 0)
			return n
		}
	}
}

// Count reads U of a number that is at most most.
func (r *Reader) Count(most int) int {
	n := r.Number()
	Need(n <= uint64(most))
	return int(n)
}

// Signed reads Z of a number.
func (r *Reader) Signed() int {
	n := r.Number()
	if n%2 == 0 {
		return int(n / 2)
	}
	return int(^(n / 2))
}

// Text reads X of a text of at most most bytes.
func (r *Reader) Text(most int) string {
	return r.Take(r.Count(most))
}

// Eight reads B of a number.
func (r *Reader) Eight() int {
	n := uint64(0)
	for i := range 8 {
		n |= uint64(r.Byte()) << (8 * i)
	}
	return int(n)
}
