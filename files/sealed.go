package files

import (
	"slices"

	"coffer/api"
	"coffer/wire"
)

// SealedFoot tells the footer or, where it is told openly, its sign, in the
// way in which Write tells what it has sealed.
func (s Sheet) SealedFoot(ring []api.Key, prefix string) api.Sealed {
	return s.form.foot.sealed(ring, s.form.Foot, s.form.footExtra(prefix))
}

// SealedColumn tells the pages and metas of the column at c, which has a key,
// in the same way.
func (s Sheet) SealedColumn(c int, ring []api.Key, prefix string) []api.Sealed {
	var all []api.Sealed
	for _, from := range s.chunks[c] {
		for _, p := range slices.Concat(from.pages, []piece{from.meta}) {
			all = append(all, p.sealed(ring, s.columns[c].Key, p.extra(prefix)))
		}
	}
	return all
}

func (p piece) sealed(ring []api.Key, key int, extra string) api.Sealed {
	secret, _ := Secret(ring, key)
	// The secret is the caller's: what is told must not live in it.
	return api.Sealed{Secret: wire.Join(secret), Nonce: p.nonce, Extra: extra, Body: p.text}
}
