// Package coffer: tables in files of columns, each sealed with a key of its own: see DOC.md.
package coffer

import (
	"coffer/api"
	"coffer/seal"
)

// A body has two bytes more than its cipher.
const maxBody = api.MaxLong + 2

// Seal seals a text (P3).
func Seal(secret, nonce, extra, plain string) (string, api.Errno) {
	if e := checkSizes(secret, nonce); e != api.OK {
		return "", e
	}
	if len(extra) > api.MaxLong || len(plain) > api.MaxLong {
		return "", api.ErrLong
	}
	return seal.Body(secret, nonce, extra, plain), api.OK
}

// Open opens what was sealed (P4).
func Open(secret, nonce, extra, body string) (string, api.Errno) {
	if e := checkSizes(secret, nonce); e != api.OK {
		return "", e
	}
	if len(extra) > api.MaxLong || len(body) > maxBody {
		return "", api.ErrLong
	}
	plain, ok := seal.Plain(secret, nonce, extra, body)
	if !ok {
		return "", api.ErrSeal
	}
	return plain, api.OK
}

func checkSizes(secret, nonce string) api.Errno {
	if len(secret) != api.SecretSize {
		return api.ErrKey
	}
	if len(nonce) != api.NonceSize {
		return api.ErrNonce
	}
	return api.OK
}

// Pack makes a page of cells (P5).
func Pack(kind int, cells []api.Cell) (string, api.Errno) { return "", api.OK }

// Unpack gives a page's cells (P6).
func Unpack(kind int, page string) ([]api.Cell, api.Errno) { return nil, api.OK }

// Write makes the file of a table, and tells all that was sealed for it (P7).
func Write(job api.Job, ring []api.Key) (string, []api.Sealed, api.Errno) { return "", nil, api.OK }

// Read reads a file (P8, P9).
func Read(file, prefix string, ring []api.Key, trust bool) ([]api.Found, api.Errno) {
	return nil, api.OK
}

// Forged gives a forgery away (P10).
func Forged(jobs []api.Job, ring []api.Key, file, prefix string) (api.Sealed, api.Errno) {
	return api.Sealed{}, api.OK
}
