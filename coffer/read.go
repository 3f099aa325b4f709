package coffer

import (
	"coffer/api"
	"coffer/bounds"
	"coffer/files"
)

func readSheet(file, prefix string, ring []api.Key, trust bool) (files.Sheet, api.Errno) {
	if !bounds.IsPrefix(prefix) {
		return files.Sheet{}, api.ErrPlan
	}
	if !bounds.IsRing(ring) {
		return files.Sheet{}, api.ErrKey
	}
	form, ok := attempt(func() files.Form { return files.ReadForm(file) })
	switch {
	case !ok:
		return files.Sheet{}, api.ErrFile
	case form.Open:
		return readTold(form, prefix, ring, trust)
	}
	return readHidden(form, prefix, ring)
}

// readHidden: there is no footer to be read till it is opened.
func readHidden(form files.Form, prefix string, ring []api.Key) (files.Sheet, api.Errno) {
	footer, e := unlock(form, prefix, ring)
	if e != api.OK {
		return files.Sheet{}, e
	}
	return layOut(form, footer)
}

// readTold: the footer is read first, and held against its sign then.
func readTold(form files.Form, prefix string, ring []api.Key, trust bool) (files.Sheet, api.Errno) {
	sheet, e := layOut(form, form.Footer)
	if e == api.OK && !trust {
		_, e = unlock(form, prefix, ring)
	}
	return sheet, e
}

func unlock(form files.Form, prefix string, ring []api.Key) (string, api.Errno) {
	secret, has := files.Secret(ring, form.Foot)
	if !has {
		return "", api.ErrNoKey
	}
	footer, ok := form.Unlock(secret, prefix)
	if !ok {
		return "", api.ErrSeal
	}
	return footer, api.OK
}

func layOut(form files.Form, footer string) (files.Sheet, api.Errno) {
	sheet, ok := attempt(func() files.Sheet { return form.Sheet(footer) })
	if !ok {
		return files.Sheet{}, api.ErrFile
	}
	return sheet, api.OK
}

func findColumns(sheet files.Sheet, prefix string, ring []api.Key) []api.Found {
	var all []api.Found
	for c, column := range sheet.Columns() {
		found := api.Found{Name: column.Name, Kind: column.Kind, Key: column.Key}
		found.State, found.Cells = findCells(sheet, c, prefix, ring)
		all = append(all, found)
	}
	return all
}

// findCells tells the state of the column at c and, with Got, its cells.
func findCells(sheet files.Sheet, c int, prefix string, ring []api.Key) (int, []api.Cell) {
	key := sheet.Columns()[c].Key
	secret, has := files.Secret(ring, key)
	if key != 0 && !has {
		return api.Locked, nil
	}
	cells, ok := attempt(func() []api.Cell { return sheet.Cells(c, secret, prefix) })
	if !ok {
		return api.Broken, nil
	}
	return api.Got, cells
}
