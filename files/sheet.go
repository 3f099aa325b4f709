package files

import (
	"coffer/api"
	"coffer/bounds"
	"coffer/pages"
	"coffer/seal"
	"coffer/wire"
)

// Sheet: what a footer tells, and the chunks of which it tells.
type Sheet struct {
	form Form
	footer
	chunks [][]chunk // of each column those of all groups
}

// chunk: the modules of so many rows of a column.
type chunk struct {
	rows  int
	pages []piece
	meta  piece
}

// Sheet reads what should be the footer, and the chunks as it lays them out.
// It gives up, as wire does, at what is no footer and at modules that do not
// stand so.
func (f Form) Sheet(text string) Sheet {
	sheet := Sheet{form: f, footer: readFooter(text, f.Foot)}
	in := wire.NewReader(f.ahead)
	in.Take(headSize)
	sheet.readChunks(in)
	in.End()
	return sheet
}

func readFooter(text string, foot int) footer {
	in := wire.NewReader(text)
	f := footer{rows: in.Count(api.MaxRows)}
	f.plan = api.Plan{Group: in.Count(api.MaxRows), Page: in.Count(api.MaxRows), Foot: in.Count(api.MaxKey)}
	wire.Need(bounds.IsPlan(f.plan) && f.plan.Foot == foot)
	f.columns = readColumns(in)
	for range len(cut(f.rows, f.plan.Group)) * len(f.columns) {
		f.places = append(f.places, in.Count(maxFile))
	}
	in.End()
	return f
}

func readColumns(in *wire.Reader) []api.Column {
	var columns []api.Column
	for range in.Count(api.MaxColumns) {
		column := api.Column{Name: in.Text(api.MaxName), Kind: in.Count(api.Texts), Key: in.Count(api.MaxKey)}
		columns = append(columns, column)
	}
	wire.Need(bounds.AreColumns(columns))
	return columns
}

func (s *Sheet) readChunks(in *wire.Reader) {
	s.chunks = make([][]chunk, len(s.columns))
	places := s.places
	for g, rows := range cut(s.rows, s.plan.Group) {
		for c := range s.columns {
			wire.Need(in.At() == places[0])
			places = places[1:]
			s.chunks[c] = append(s.chunks[c], s.readChunk(in, g, c, rows.end-rows.from))
		}
	}
}

func (s *Sheet) readChunk(in *wire.Reader, g, c, rows int) chunk {
	key := s.columns[c].Key
	out := chunk{rows: rows}
	for p := range cut(rows, s.plan.Page) {
		out.pages = append(out.pages, readPiece(in, key, module{pageSort, g, c, p}))
	}
	out.meta = readPiece(in, key, module{metaSort, g, c, 0})
	return out
}

// readPiece reads a module of a column with this key.
func readPiece(in *wire.Reader, key int, m module) piece {
	if key == 0 {
		return piece{module: m, text: in.Take(in.Two())}
	}
	return readSealed(in, m)
}

// Columns are the columns that the footer tells, without their cells.
func (s Sheet) Columns() []api.Column {
	return s.columns
}

// Cells are the cells of the column at c, opened with its key's secret (an
// open one takes none). If the column was touched, it gives up, as wire does.
func (s Sheet) Cells(c int, secret, prefix string) []api.Cell {
	kind := s.columns[c].Kind
	var cells []api.Cell
	for _, from := range s.chunks[c] {
		part := s.chunkCells(kind, from, secret, prefix)
		wire.Need(from.meta.plain(secret, prefix) == meta(kind, part))
		cells = append(cells, part...)
	}
	return cells
}

func (s Sheet) chunkCells(kind int, from chunk, secret, prefix string) []api.Cell {
	var cells []api.Cell
	for p, rows := range cut(from.rows, s.plan.Page) {
		page := pages.Cells(kind, from.pages[p].plain(secret, prefix))
		wire.Need(len(page) == rows.end-rows.from)
		cells = append(cells, page...)
	}
	return cells
}

// plain gives up if the secret does not open the module.
func (p piece) plain(secret, prefix string) string {
	if p.nonce == "" {
		return p.text
	}
	plain, ok := seal.Plain(secret, p.nonce, p.extra(prefix), p.text)
	wire.Need(ok)
	return plain
}
