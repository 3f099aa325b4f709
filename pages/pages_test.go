package pages

import (
	"math/rand"
	"slices"
	"testing"

	"coffer/api"
	"coffer/wire"
)

// read is Cells; what it panics with comes as why.
func read(kind int, page string) (cells []api.Cell, why any) {
	defer func() { why = recover() }()
	return Cells(kind, page), nil
}

var samples = []struct {
	kind  int
	cells []api.Cell
	page  string
}{
	{api.Ints, nil, "\x00"},
	{api.Ints, []api.Cell{{Null: true}}, "\x01\x00\x01"},
	{api.Ints, []api.Cell{{Int: 5}, {Null: true}, {Null: true}, {Int: 7}}, "\x04\x01\x02\x01\x01\x0a\x04"},
	{api.Ints, []api.Cell{{Int: 7}, {Int: 7}, {Int: 7}}, "\x03\x03\x02\x03\x0e"},
	{api.Ints, []api.Cell{{Int: -1 << 63}}, "\x01\x01\x00\x00\x00\x00\x00\x00\x00\x00\x80"},
	{api.Texts, []api.Cell{{Text: "ab"}, {Text: "abc"}}, "\x02\x02\x00\x02ab\x03abc"},
	{api.Texts, []api.Cell{{Text: "abc"}, {Null: true}, {Text: "abc"}}, "\x03\x01\x01\x01\x03\x01\x03abc\x00\x00"},
	{api.Texts, []api.Cell{{Text: "abcdef"}, {Text: "abcdeg"}}, "\x02\x02\x04\x00\x06abcdef\x05\x01g"},
}

func TestPageAndCells(t *testing.T) {
	for _, c := range samples {
		if got := Page(c.kind, c.cells); got != c.page {
			t.Errorf("Page(%d, %v) = %x, want %x", c.kind, c.cells, got, c.page)
		}
		if got, why := read(c.kind, c.page); !slices.Equal(got, c.cells) || why != nil {
			t.Errorf("Cells(%d, %x) = %v, %v, want %v", c.kind, c.page, got, why, c.cells)
		}
	}
}

// Bytes that are no page are found out by reading: nothing breaks on the way.
func TestReadingBreaksNothing(t *testing.T) {
	dice := rand.New(rand.NewSource(2))
	for range 200000 {
		c := samples[dice.Intn(len(samples))]
		page := []byte(c.page)
		for range 1 + dice.Intn(3) {
			page[dice.Intn(len(page))] = byte(dice.Intn(6) << dice.Intn(8))
		}
		page = page[:dice.Intn(len(page)+1)]
		cells, why := read(c.kind, string(page))
		if why == nil && Page(c.kind, cells) != string(page) {
			t.Errorf("Cells(%d, %x) = %v: this is not their page", c.kind, page, cells)
		}
		if why != nil && why != wire.GaveUp {
			t.Errorf("Cells(%d, %x) broke: %v", c.kind, page, why)
		}
	}
}

func TestEveryWayReadsWhatItWrites(t *testing.T) {
	wantWays(t, numbers(), [][]int{{0}, {7, 7, 7}, {-1 << 63, 1<<63 - 1, 0, 0}, {1, 2, 3, -500}})
	wantWays(t, texts(), [][]string{{""}, {"a", "a", "b"}, {"abcdefghijkl", "abcdef", ""}, {"", "\xff", "\xff\x00"}})
}

func wantWays[V comparable](t *testing.T, c codec[V], lists [][]V) {
	t.Helper()
	for i, w := range c.ways {
		if i > 0 && c.ways[i-1].number >= w.number {
			t.Errorf("way %d does not stand behind a lower number", w.number)
		}
		for _, values := range lists {
			written := w.write(c, values)
			if got := w.read(c, wire.NewReader(written), len(values)); !slices.Equal(got, values) {
				t.Errorf("way %d: %v is written as %x, read as %v", w.number, values, written, got)
			}
		}
	}
}
