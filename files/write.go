// Package files: how a table is laid out in a file. It takes jobs and rings
// as they come: the bounds are held at the face.
package files

import (
	"coffer/api"
	"coffer/pages"
	"coffer/seal"
	"coffer/wire"
)

// Write is the file of a job, and all that was sealed for it. The ring has
// all the keys that it takes.
func Write(job api.Job, ring []api.Key) (string, []api.Sealed) {
	p := &press{job: job, ring: ring}
	p.write(head(job.Plan))
	places := p.chunks()
	p.end(footer{rows: p.rows(), plan: job.Plan, columns: job.Table, places: places})
	return string(p.out), p.sealed
}

// press writes a file from its beginning on.
type press struct {
	job    api.Job
	ring   []api.Key
	out    []byte
	sealed []api.Sealed
}

func (p *press) write(parts ...string) {
	for _, part := range parts {
		p.out = append(p.out, part...)
	}
}

func (p *press) rows() int {
	return len(p.job.Table[0].Cells)
}

// chunks writes all chunks, and tells their places.
func (p *press) chunks() []int {
	var places []int
	for g, rows := range cut(p.rows(), p.job.Plan.Group) {
		for c := range p.job.Table {
			places = append(places, len(p.out))
			p.chunk(g, c, rows)
		}
	}
	return places
}

func (p *press) chunk(g, c int, rows span) {
	column := p.job.Table[c]
	cells := column.Cells[rows.from:rows.end]
	for i, page := range cut(len(cells), p.job.Plan.Page) {
		p.module(column.Key, module{pageSort, g, c, i}, pages.Page(column.Kind, cells[page.from:page.end]))
	}
	p.module(column.Key, module{metaSort, g, c, 0}, meta(column.Kind, cells))
}

// module writes a module of a column with this key.
func (p *press) module(key int, m module, plain string) {
	if key == 0 {
		p.open(plain)
		return
	}
	p.seal(key, plain, m.extra(p.job.Prefix))
}

func (p *press) open(plain string) {
	p.write(wire.Two(len(plain)), plain)
}

func (p *press) seal(key int, plain, extra string) {
	secret, _ := Secret(p.ring, key)
	nonce := wire.Join(wire.Two(p.job.Draw), wire.Two(len(p.sealed)))
	body := seal.Body(secret, nonce, extra, plain)
	p.write(wire.Two(len(body)), nonce, body)
	// The secret is the caller's: what is told must not live in it.
	p.sealed = append(p.sealed, api.Sealed{Secret: wire.Join(secret), Nonce: nonce, Extra: extra, Body: body})
}

// end writes the footer part, and what stands behind it.
func (p *press) end(f footer) {
	start := len(p.out)
	plain, foot, prefix := f.text(), f.plan.Foot, p.job.Prefix
	if f.plan.Open {
		p.open(plain)
		p.seal(foot, "", module{sort: signSort}.extra(prefix, plain))
	} else {
		p.seal(foot, plain, module{sort: footerSort}.extra(prefix))
	}
	p.write(wire.Two(len(p.out)-start), mark)
}
