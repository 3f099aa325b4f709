// Package coffer: tables in files of columns, each sealed with a key of its own: see DOC.md.
package coffer

import (
	"coffer/api"
	"coffer/bounds"
	"coffer/files"
	"coffer/pages"
	"coffer/seal"
)

// Seal seals a text (P3).
func Seal(secret, nonce, extra, plain string) (string, api.Errno) {
	if e := checkSizes(secret, nonce); e != api.OK {
		return "", e
	}
	if len(extra) > api.MaxLong || len(plain) > api.MaxLong {
		return "", api.ErrLong
	}
	return seal.Body(secret, nonce, extra, plain), api.OK
}

// Open opens what was sealed (P4).
func Open(secret, nonce, extra, body string) (string, api.Errno) {
	if e := checkSizes(secret, nonce); e != api.OK {
		return "", e
	}
	if len(extra) > api.MaxLong || len(body) > seal.MaxBody {
		return "", api.ErrLong
	}
	plain, ok := seal.Plain(secret, nonce, extra, body)
	if !ok {
		return "", api.ErrSeal
	}
	return plain, api.OK
}

func checkSizes(secret, nonce string) api.Errno {
	if len(secret) != api.SecretSize {
		return api.ErrKey
	}
	if len(nonce) != api.NonceSize {
		return api.ErrNonce
	}
	return api.OK
}

// Pack makes a page of cells (P5).
func Pack(kind int, cells []api.Cell) (string, api.Errno) {
	if !bounds.IsKind(kind) || !bounds.AreCells(kind, cells) {
		return "", api.ErrTable
	}
	return pages.Page(kind, cells), api.OK
}

// Unpack gives a page's cells (P6).
func Unpack(kind int, page string) ([]api.Cell, api.Errno) {
	if !bounds.IsKind(kind) {
		return nil, api.ErrPage
	}
	cells, ok := attempt(func() []api.Cell { return pages.Cells(kind, page) })
	if !ok {
		return nil, api.ErrPage
	}
	return cells, api.OK
}

// attempt catches what gives up inside by panic: false then, and nothing.
func attempt[T any](work func() T) (out T, ok bool) {
	defer func() { ok = recover() == nil }()
	return work(), true
}

// Write makes the file of a table, and tells all that was sealed for it (P7).
func Write(job api.Job, ring []api.Key) (string, []api.Sealed, api.Errno) {
	if e := checkJob(job, ring); e != api.OK {
		return "", nil, e
	}
	file, sealed := files.Write(job, ring)
	return file, sealed, api.OK
}

func checkJob(job api.Job, ring []api.Key) api.Errno {
	switch {
	case !bounds.IsTable(job.Table):
		return api.ErrTable
	case !bounds.IsPlan(job.Plan) || !bounds.IsPrefix(job.Prefix) || !bounds.IsDraw(job.Draw):
		return api.ErrPlan
	case !bounds.IsRing(ring):
		return api.ErrKey
	case !files.HasKeys(job, ring):
		return api.ErrNoKey
	}
	return api.OK
}

// Read reads a file (P8, P9).
func Read(file, prefix string, ring []api.Key, trust bool) ([]api.Found, api.Errno) {
	sheet, e := readSheet(file, prefix, ring, trust)
	if e != api.OK {
		return nil, e
	}
	return findColumns(sheet, prefix, ring), api.OK
}

// Forged gives a forgery away (P10).
func Forged(jobs []api.Job, ring []api.Key, file, prefix string) (api.Sealed, api.Errno) {
	known, e := sealJobs(jobs, ring)
	if e != api.OK {
		return api.Sealed{}, e
	}
	sheet, e := readSheet(file, prefix, ring, false)
	if e != api.OK {
		return api.Sealed{}, api.ErrCalm
	}
	found := findColumns(sheet, prefix, ring)
	if isWritten(found, prefix, jobs) {
		return api.Sealed{}, api.ErrCalm
	}
	return findStrange(openedSeals(sheet, found, prefix, ring), known)
}
