package coffer

import (
	"encoding/binary"
	"slices"
	"strings"

	"coffer/api"
)

// Files read once more from the document, so that the program is held
// against something other than itself: nothing is told by panic, and what was
// read is held against what would be written for it.

// referenceScan: once something is missing it is bad, and stays so.
type referenceScan struct {
	rest string
	bad  bool
}

func (s *referenceScan) take(n int) string {
	if s.bad || n > len(s.rest) {
		s.bad = true
		return ""
	}
	taken := s.rest[:n]
	s.rest = s.rest[n:]
	return taken
}

func (s *referenceScan) two() int {
	if b := s.take(2); !s.bad {
		return int(binary.LittleEndian.Uint16([]byte(b)))
	}
	return 0
}

// number takes numbers in more bytes than needed too.
func (s *referenceScan) number() int {
	n, size := binary.Uvarint([]byte(s.rest))
	if size <= 0 || n > 1<<32 {
		s.bad = true
		return 0
	}
	s.take(size)
	return int(n)
}

func (s *referenceScan) sealed() (nonce, body string) {
	size := s.two()
	nonce, body = s.take(4), s.take(size)
	s.bad = s.bad || size < 2
	return nonce, body
}

func referenceOpen(secret, nonce, extra, body string) (string, bool) {
	if len(body) < 2 || len(body) > 5002 || len(extra) > 5000 {
		return "", false
	}
	// Sealed once more, a cipher is the plain text.
	cipher := body[:len(body)-2]
	twice := referenceBody(secret, nonce, extra, cipher)
	plain := twice[:len(cipher)]
	return plain, referenceBody(secret, nonce, extra, plain) == body
}

func referenceRing(ring []api.Key) (map[int]string, bool) {
	secrets := map[int]string{}
	for _, key := range ring {
		if key.Number < 1 || key.Number > 9 || len(key.Secret) != 8 {
			return nil, false
		}
		secrets[key.Number] = key.Secret
	}
	return secrets, len(secrets) == len(ring)
}

// referenceForm: a file's parts.
type referenceForm struct {
	mode                       byte
	foot                       int
	ahead, footer, nonce, body string
}

func referenceReadForm(file string) (f referenceForm, ok bool) {
	if len(file) > 65000 || len(file) < 8 || !strings.HasPrefix(file, "CF") || !strings.HasSuffix(file, "CF") {
		return f, false
	}
	f.mode, f.foot = file[2], int(file[3])
	end := len(file) - 4
	size := int(file[end]) + 256*int(file[end+1])
	if f.mode != 'E' && f.mode != 'O' || f.foot < 1 || f.foot > 9 || end-size < 4 {
		return f, false
	}
	f.ahead = file[:end-size]
	scan := &referenceScan{rest: file[end-size : end]}
	if f.mode == 'O' {
		f.footer = scan.take(scan.two())
	}
	f.nonce, f.body = scan.sealed()
	return f, !scan.bad && scan.rest == ""
}

// referenceReadFooter: a job that has this footer, its cells all null.
func referenceReadFooter(text string, foot int) (job api.Job, places []int, ok bool) {
	scan := &referenceScan{rest: text}
	rows := scan.number()
	job.Plan = api.Plan{Group: scan.number(), Page: scan.number(), Foot: scan.number()}
	columns := scan.number()
	if scan.bad || rows > 60 || columns > 6 {
		return job, nil, false
	}
	for range columns {
		name := scan.take(scan.number())
		job.Table = append(job.Table, column(name, scan.number(), scan.number(), repeat(rows, ints(nil))))
	}
	// Whether there may be such a job, Write knows.
	if _, _, e := Write(job, fullRing()); scan.bad || e != api.OK {
		return job, nil, false
	}
	for range referenceChunks(job) {
		places = append(places, scan.number())
	}
	return job, places, !scan.bad && job.Plan.Foot == foot && referenceFooter(job, places) == text
}

// referencePiece: a module as it was found, and its place.
type referencePiece struct {
	place, nonce, text string
}

// referenceWalk: the modules of each column.
func referenceWalk(job api.Job, places []int, ahead string) ([][]referencePiece, bool) {
	scan := &referenceScan{rest: ahead[4:]}
	pieces := make([][]referencePiece, len(job.Table))
	for i, chunk := range referenceChunks(job) {
		if len(ahead)-len(scan.rest) != places[i] {
			return nil, false
		}
		for _, m := range chunk {
			c := i % len(job.Table)
			piece := referencePiece{place: m.place}
			if m.key == 0 {
				piece.text = scan.take(scan.two())
			} else {
				piece.nonce, piece.text = scan.sealed()
			}
			pieces[c] = append(pieces[c], piece)
		}
	}
	return pieces, !scan.bad && scan.rest == ""
}

// referenceCells: the column's cells, if their modules are those.
func referenceCells(job api.Job, c int, secret, prefix string, pieces []referencePiece) ([]api.Cell, bool) {
	one := job.Table[c]
	one.Cells = nil
	var plains []string
	for _, piece := range pieces {
		plain := piece.text
		if one.Key != 0 {
			opened, ok := referenceOpen(secret, piece.nonce, string(referenceText(nil, prefix))+piece.place, piece.text)
			if !ok {
				return nil, false
			}
			plain = opened
		}
		plains = append(plains, plain)
		if piece.place[0] == 'P' {
			cells, _ := Unpack(one.Kind, plain)
			one.Cells = append(one.Cells, cells...)
		}
	}
	var want []string
	for _, chunk := range referenceChunks(api.Job{Table: []api.Column{one}, Plan: job.Plan}) {
		for _, m := range chunk {
			want = append(want, m.plain)
		}
	}
	return one.Cells, len(one.Cells) == len(job.Table[c].Cells) && slices.Equal(plains, want)
}

func referenceFound(job api.Job, secrets map[int]string, prefix string, pieces [][]referencePiece) []api.Found {
	var all []api.Found
	for c, column := range job.Table {
		found := api.Found{Name: column.Name, Kind: column.Kind, Key: column.Key}
		if _, has := secrets[column.Key]; !has && column.Key != 0 {
			found.State = api.Locked
		} else if cells, ok := referenceCells(job, c, secrets[column.Key], prefix, pieces[c]); ok {
			found.Cells = cells
		} else {
			found.State = api.Broken
		}
		all = append(all, found)
	}
	return all
}

func referenceRead(file, prefix string, ring []api.Key, trust bool) ([]api.Found, api.Errno) {
	if len(prefix) > 20 {
		return nil, api.ErrPlan
	}
	secrets, ok := referenceRing(ring)
	if !ok {
		return nil, api.ErrKey
	}
	form, ok := referenceReadForm(file)
	if !ok {
		return nil, api.ErrFile
	}
	secret, has := secrets[form.foot]
	head := string(referenceText(nil, prefix))
	if form.mode == 'E' {
		if !has {
			return nil, api.ErrNoKey
		}
		if form.footer, ok = referenceOpen(secret, form.nonce, head+"F"+referenceTwo(0, 0, 0), form.body); !ok {
			return nil, api.ErrSeal
		}
	}
	job, places, ok := referenceReadFooter(form.footer, form.foot)
	if !ok {
		return nil, api.ErrFile
	}
	pieces, ok := referenceWalk(job, places, form.ahead)
	if !ok {
		return nil, api.ErrFile
	}
	if form.mode == 'O' && !trust {
		if !has {
			return nil, api.ErrNoKey
		}
		if plain, ok := referenceOpen(secret, form.nonce, head+"S"+referenceTwo(0, 0, 0)+form.footer, form.body); !ok || plain != "" {
			return nil, api.ErrSeal
		}
	}
	return referenceFound(job, secrets, prefix, pieces), api.OK
}
