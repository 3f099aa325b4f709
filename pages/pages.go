// Package pages: pages of cells. It takes kinds and cells as they come: the
// bounds are held at the face.
package pages

import (
	"slices"

	"coffer/api"
	"coffer/wire"
)

// Page is the page of cells of the kind.
func Page(kind int, cells []api.Cell) string {
	if kind == api.Ints {
		return numbers().page(cells)
	}
	return texts().page(cells)
}

// Cells are the cells of the kind that have this page. If none have, it
// gives up by panic, as wire does.
func Cells(kind int, page string) []api.Cell {
	if kind == api.Ints {
		return numbers().cells(page)
	}
	return texts().cells(page)
}

// runs are the number of the cells and the lengths of their runs.
func runs(cells []api.Cell) string {
	parts := []string{wire.Count(len(cells))}
	null := false
	for at := 0; at < len(cells); null = !null {
		end := at
		for end < len(cells) && cells[end].Null == null {
			end++
		}
		parts = append(parts, wire.Count(end-at))
		at = end
	}
	return wire.Join(parts...)
}

// readRuns tells of each cell whether it is null.
func readRuns(in *wire.Reader) []bool {
	count := in.Count(api.MaxRows)
	nulls := make([]bool, 0, count)
	for null := false; len(nulls) < count; null = !null {
		run := in.Count(count - len(nulls))
		first := !null && len(nulls) == 0
		wire.Need(run > 0 || first)
		nulls = append(nulls, slices.Repeat([]bool{null}, run)...)
	}
	return nulls
}
