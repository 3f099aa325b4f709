package files

import (
	"slices"
	"strings"
	"testing"

	"coffer/api"
	"coffer/seal"
	"coffer/wire"
)

// gaveUp tells whether the work gave up, in the way of wire.
func gaveUp(t *testing.T, work func()) (gave bool) {
	t.Helper()
	defer func() {
		t.Helper()
		why := recover()
		if gave = why != nil; gave && why != wire.GaveUp {
			t.Errorf("recovered %v, want %q", why, wire.GaveUp)
		}
	}()
	work()
	return false
}

var (
	ring = []api.Key{{Number: 1, Secret: "secret-1"}, {Number: 3, Secret: "secret-3"}}
	rows = api.Job{
		Table: []api.Column{
			{Name: "n", Key: 1, Cells: []api.Cell{{Int: 5}, {Null: true}, {Int: 7}}},
			{Name: "t", Kind: api.Texts, Cells: []api.Cell{{Text: "x"}, {}, {Null: true}}},
		},
		Plan: api.Plan{Group: 2, Page: 1, Foot: 3}, Prefix: "pre", Draw: 258,
	}
)

func TestReadFormTakesAFileApart(t *testing.T) {
	for _, open := range []bool{false, true} {
		job := rows
		job.Plan.Open = open
		file, sealed := Write(job, ring)
		form := ReadForm(file)
		last := sealed[len(sealed)-1]
		if form.Open != open || form.Foot != 3 || form.foot.nonce != last.Nonce || form.foot.text != last.Body {
			t.Errorf("the form of %x is %v", file, form)
		}
		footer, ok := form.Unlock("secret-3", "pre")
		if !ok || open && footer != form.Footer || !open && form.Footer != "" {
			t.Errorf("the footer is %x, and told %x", footer, form.Footer)
		}
		for _, other := range [][2]string{{"secret-1", "pre"}, {"secret-3", "prf"}} {
			if _, ok := form.Unlock(other[0], other[1]); ok {
				t.Errorf("%q opens the footer with the prefix %q", other[0], other[1])
			}
		}
		for n := range len(file) {
			if !gaveUp(t, func() { ReadForm(file[:n]) }) {
				t.Errorf("the first %d bytes have the form of a file", n)
			}
		}
	}
}

func TestSheetHasTheColumns(t *testing.T) {
	file, _ := Write(rows, ring)
	form := ReadForm(file)
	footer, _ := form.Unlock("secret-3", "pre")
	sheet := form.Sheet(footer)
	columns := sheet.Columns()
	if len(columns) != 2 || columns[0].Name != "n" || columns[0].Key != 1 || columns[1].Kind != api.Texts || columns[1].Cells != nil {
		t.Errorf("the columns are %v", columns)
	}
	for c, secret := range []string{"secret-1", ""} {
		if cells := sheet.Cells(c, secret, "pre"); !slices.Equal(cells, rows.Table[c].Cells) {
			t.Errorf("the cells at %d are %v", c, cells)
		}
	}
	for _, other := range [][2]string{{"secret-3", "pre"}, {"secret-1", "prf"}} {
		if !gaveUp(t, func() { sheet.Cells(0, other[0], other[1]) }) {
			t.Errorf("%q opens the column with the prefix %q", other[0], other[1])
		}
	}
	for _, text := range []string{"", footer[1:], footer + "\x00", strings.ToUpper(footer)} {
		if !gaveUp(t, func() { form.Sheet(text) }) {
			t.Errorf("%x is read as a footer", text)
		}
	}
}

// What is told as sealed of a file that was read is what was told of it when
// it was written.
func TestSheetTellsWhatWasSealed(t *testing.T) {
	for _, open := range []bool{false, true} {
		job := rows
		job.Plan.Open = open
		file, want := Write(job, ring)
		form := ReadForm(file)
		footer, _ := form.Unlock("secret-3", "pre")
		sheet := form.Sheet(footer)
		got := append(sheet.SealedColumn(0, ring, "pre"), sheet.SealedFoot(ring, "pre"))
		if !slices.Equal(got, want) {
			t.Errorf("%q is told as sealed, want %q", got, want)
		}
		// A prefix is told as it was asked for.
		if foot := sheet.SealedFoot(ring, "prf"); !strings.HasPrefix(foot.Extra, "\x03prf") {
			t.Errorf("under another prefix %q is told", foot)
		}
	}
}

func TestReadFooterUndoesText(t *testing.T) {
	f := footer{
		rows:    3,
		plan:    api.Plan{Group: 2, Page: 60, Foot: 9},
		columns: []api.Column{{Name: "id", Kind: api.Ints, Key: 1}, {Name: "who", Kind: api.Texts}},
		places:  []int{4, 127, 128, 16384},
	}
	got := readFooter(f.text(), 9)
	if got.rows != 3 || got.plan != f.plan || got.text() != f.text() || !slices.Equal(got.places, f.places) {
		t.Errorf("the footer is read as %v", got)
	}
	if !gaveUp(t, func() { readFooter(f.text(), 8) }) {
		t.Errorf("the footer is read with another Foot")
	}
}

func TestReadSealed(t *testing.T) {
	for n := range 4 {
		body := strings.Repeat("x", n)
		text := wire.Join(wire.Two(n), "nonc", body)
		var got piece
		gave := gaveUp(t, func() { got = readSealed(wire.NewReader(text), module{sort: signSort}) })
		if gave != (n < seal.MinBody) || !gave && got != (piece{module{sort: signSort}, "nonc", body}) {
			t.Errorf("%x is read as %v", text, got)
		}
	}
}
