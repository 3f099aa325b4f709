package files

import (
	"slices"

	"coffer/api"
	"coffer/wire"
)

const (
	mark   = "CF" // at the beginning of a file, and at its end
	hidden = "E"  // behind the mark, if the footer is sealed
	told   = "O"  // behind the mark, if the footer is told openly
)

// The sorts of modules.
const (
	pageSort   = "P"
	metaSort   = "M"
	footerSort = "F"
	signSort   = "S"
)

// module: the place to which a seal is bound.
type module struct {
	sort                string
	group, column, page int
}

// extra is the module's extra text, with what stands behind its place.
func (m module) extra(prefix string, behind ...string) string {
	return wire.Join(
		wire.Text(prefix), m.sort, wire.Two(m.group), wire.Two(m.column), wire.Two(m.page),
		wire.Join(behind...),
	)
}

// span: from one row to ahead of another.
type span struct{ from, end int }

// cut cuts rows into spans of a size, the last one of those that are left.
func cut(rows, size int) []span {
	var spans []span
	for from := 0; from < rows; from += size {
		spans = append(spans, span{from, min(from+size, rows)})
	}
	return spans
}

func head(plan api.Plan) string {
	mode := hidden
	if plan.Open {
		mode = told
	}
	return wire.Join(mark, mode, wire.Byte(byte(plan.Foot)))
}

// meta is the meta of a chunk with these cells.
func meta(kind int, cells []api.Cell) string {
	var numbers []int
	nulls := 0
	for _, cell := range cells {
		if cell.Null {
			nulls++
		} else if kind == api.Ints {
			numbers = append(numbers, cell.Int)
		}
	}
	if len(numbers) == 0 {
		return wire.Join(wire.Count(nulls), wire.Byte(0))
	}
	least, greatest := slices.Min(numbers), slices.Max(numbers)
	return wire.Join(wire.Count(nulls), wire.Byte(1), wire.Signed(least), wire.Signed(greatest))
}

// footer: what a footer tells. The columns' cells are no part of it.
type footer struct {
	rows    int
	plan    api.Plan
	columns []api.Column
	places  []int // of all chunks, in their order
}

func (f footer) text() string {
	parts := []string{
		wire.Count(f.rows), wire.Count(f.plan.Group), wire.Count(f.plan.Page), wire.Count(f.plan.Foot),
		wire.Count(len(f.columns)),
	}
	for _, column := range f.columns {
		parts = append(parts, wire.Text(column.Name), wire.Count(column.Kind), wire.Count(column.Key))
	}
	for _, place := range f.places {
		parts = append(parts, wire.Count(place))
	}
	return wire.Join(parts...)
}
