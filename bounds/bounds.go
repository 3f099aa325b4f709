// Package bounds: which cells, tables, plans and rings may be.
package bounds

import "coffer/api"

func IsKind(kind int) bool {
	return kind == api.Ints || kind == api.Texts
}

// AreCells tells whether these are cells of the kind, and not too many.
func AreCells(kind int, cells []api.Cell) bool {
	if len(cells) > api.MaxRows {
		return false
	}
	for _, cell := range cells {
		if !isCell(kind, cell) {
			return false
		}
	}
	return true
}

func isCell(kind int, cell api.Cell) bool {
	if cell.Null {
		return cell.Int == 0 && cell.Text == ""
	}
	if kind == api.Ints {
		return cell.Text == ""
	}
	return cell.Int == 0 && len(cell.Text) <= api.MaxText
}

func IsTable(table []api.Column) bool {
	if !AreColumns(table) {
		return false
	}
	rows := len(table[0].Cells)
	for _, column := range table {
		if len(column.Cells) != rows || !AreCells(column.Kind, column.Cells) {
			return false
		}
	}
	return true
}

// AreColumns tells whether some table has these columns, whatever its cells.
func AreColumns(columns []api.Column) bool {
	if len(columns) < 1 || len(columns) > api.MaxColumns {
		return false
	}
	for i, column := range columns {
		if !isColumn(column) || hasName(columns[:i], column.Name) {
			return false
		}
	}
	return true
}

func isColumn(column api.Column) bool {
	open := column.Key == 0
	return isName(column.Name) && IsKind(column.Kind) && (open || IsKey(column.Key))
}

func isName(name string) bool {
	if len(name) < 1 || len(name) > api.MaxName {
		return false
	}
	for i := range len(name) {
		if name[i] < 'a' || name[i] > 'z' {
			return false
		}
	}
	return true
}

func hasName(columns []api.Column, name string) bool {
	for _, column := range columns {
		if column.Name == name {
			return true
		}
	}
	return false
}

// IsKey tells whether a key may have this number.
func IsKey(number int) bool {
	return number >= 1 && number <= api.MaxKey
}

func IsPlan(plan api.Plan) bool {
	return isSize(plan.Group) && isSize(plan.Page) && IsKey(plan.Foot)
}

// isSize: a group or a page has room for one row at least, and at most for
// all that a table may have.
func isSize(size int) bool {
	return size >= 1 && size <= api.MaxRows
}

func IsPrefix(prefix string) bool {
	return len(prefix) <= api.MaxPrefix
}

func IsDraw(draw int) bool {
	return draw >= 0 && draw <= api.MaxDraw
}

func IsRing(ring []api.Key) bool {
	var seen [api.MaxKey + 1]bool
	for _, key := range ring {
		if !IsKey(key.Number) || seen[key.Number] || len(key.Secret) != api.SecretSize {
			return false
		}
		seen[key.Number] = true
	}
	return true
}
