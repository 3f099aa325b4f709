package files

import (
	"coffer/api"
	"coffer/bounds"
	"coffer/seal"
	"coffer/wire"
)

const (
	maxFile  = 65000 // bytes of a file that is read
	headSize = 4     // the mark, E or O, Foot
	endSize  = 4     // the footer part's length, the mark
)

// piece: a module as it stands in a file.
type piece struct {
	module
	nonce string // none in an open column
	text  string // the body; in an open column the plain text
}

func readSealed(in *wire.Reader, m module) piece {
	size := in.Two()
	wire.Need(size >= seal.MinBody)
	return piece{m, in.Take(api.NonceSize), in.Take(size)}
}

// Form: a file taken apart as far as it takes neither key nor footer.
type Form struct {
	Foot   int
	Open   bool
	Footer string // what should be it, if it is told openly

	foot  piece  // the sealed footer, or the sign
	ahead string // all that stands ahead of the footer part
}

// ReadForm gives up, as wire does, at what has not the form of a file.
func ReadForm(file string) Form {
	wire.Need(len(file) >= headSize+endSize && len(file) <= maxFile)
	end := len(file) - endSize
	start := end - readEnd(wire.NewReader(file[end:]))
	wire.Need(start >= headSize)
	form := Form{ahead: file[:start]}
	form.readHead(wire.NewReader(file[:headSize]))
	form.readFoot(wire.NewReader(file[start:end]))
	return form
}

// readEnd tells the footer part's length.
func readEnd(in *wire.Reader) int {
	size := in.Two()
	wire.Need(in.Take(len(mark)) == mark)
	return size
}

func (f *Form) readHead(in *wire.Reader) {
	wire.Need(in.Take(len(mark)) == mark)
	mode := in.Take(len(told))
	wire.Need(mode == told || mode == hidden)
	f.Open = mode == told
	f.Foot = int(in.Byte())
	wire.Need(bounds.IsKey(f.Foot))
}

func (f *Form) readFoot(in *wire.Reader) {
	sort := footerSort
	if f.Open {
		f.Footer = in.Take(in.Two())
		sort = signSort
	}
	f.foot = readSealed(in, module{sort: sort})
	in.End()
}

// Unlock is the footer, if the secret opens it or, where it is told openly,
// its sign.
func (f Form) Unlock(secret, prefix string) (string, bool) {
	plain, ok := seal.Plain(secret, f.foot.nonce, f.footExtra(prefix), f.foot.text)
	if f.Open {
		return f.Footer, ok && plain == ""
	}
	return plain, ok
}

// footExtra: a sealed footer has none that is told openly behind its place.
func (f Form) footExtra(prefix string) string {
	return f.foot.extra(prefix, f.Footer)
}
