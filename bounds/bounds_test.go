package bounds

import (
	"strings"
	"testing"

	"coffer/api"
)

func TestNumbersFromTo(t *testing.T) {
	for _, c := range []struct {
		name        string
		least, most int
		may         func(n int) bool
	}{
		{"kind", 0, 1, IsKind},
		{"draw", 0, 65535, IsDraw},
		{"group", 1, 60, func(n int) bool { return IsPlan(api.Plan{Group: n, Page: 1, Foot: 1}) }},
		{"page", 1, 60, func(n int) bool { return IsPlan(api.Plan{Group: 1, Page: n, Foot: 1, Open: true}) }},
		{"foot", 1, 9, func(n int) bool { return IsPlan(api.Plan{Group: 1, Page: 1, Foot: n}) }},
		{"column's key", 0, 9, func(n int) bool { return IsTable([]api.Column{{Name: "a", Key: n}}) }},
		{"column's kind", 0, 1, func(n int) bool { return IsTable([]api.Column{{Name: "a", Kind: n}}) }},
		{"key", 1, 9, IsKey},
		{"ring's key", 1, 9, func(n int) bool { return IsRing([]api.Key{{Number: n, Secret: "8 bytes."}}) }},
	} {
		for _, n := range []int{c.least, c.least + 1, (c.least + c.most) / 2, c.most - 1, c.most} {
			if !c.may(n) {
				t.Errorf("%s %d: may not be", c.name, n)
			}
		}
		for _, n := range []int{-1 << 63, -256, c.least - 1, c.most + 1, 1<<16 + c.least, 1<<32 + c.least, 1<<63 - 1} {
			if c.may(n) {
				t.Errorf("%s %d: may be", c.name, n)
			}
		}
	}
}

func TestLengthsFromTo(t *testing.T) {
	for _, c := range []struct {
		name        string
		least, most int
		may         func(n int) bool
	}{
		{"prefix", 0, 20, func(n int) bool { return IsPrefix(strings.Repeat("p", n)) }},
		{"name", 1, 8, func(n int) bool { return IsTable([]api.Column{{Name: strings.Repeat("n", n)}}) }},
		{"secret", 8, 8, func(n int) bool { return IsRing([]api.Key{{Number: 1, Secret: strings.Repeat("s", n)}}) }},
		{"text", 0, 12, func(n int) bool { return AreCells(api.Texts, []api.Cell{{Text: strings.Repeat("t", n)}}) }},
		{"cells", 0, 60, func(n int) bool { return AreCells(api.Texts, make([]api.Cell, n)) }},
		{"rows", 0, 60, func(n int) bool { return IsTable([]api.Column{{Name: "a", Cells: make([]api.Cell, n)}}) }},
		{"columns", 1, 6, func(n int) bool { return IsTable(columns(n)) }},
		{"columns alone", 1, 6, func(n int) bool { return AreColumns(columns(n)) }},
	} {
		for n := range 300 {
			if want := n >= c.least && n <= c.most; c.may(n) != want {
				t.Errorf("%s of length %d: may be is %t", c.name, n, !want)
			}
		}
	}
}

// columns are n columns of different names.
func columns(n int) []api.Column {
	var out []api.Column
	for c := range n {
		out = append(out, api.Column{Name: strings.Repeat("x", c/26%7) + string(rune('a'+c%26))})
	}
	return out
}

func TestNamesAndNumbersComeOnce(t *testing.T) {
	if IsTable([]api.Column{{Name: "a"}, {Name: "b"}, {Name: "a", Kind: api.Texts, Key: 1}}) {
		t.Errorf("two columns may have one name")
	}
	if IsRing([]api.Key{{Number: 1, Secret: "8 bytes."}, {Number: 2, Secret: "8 bytes."}, {Number: 1, Secret: "8 others"}}) {
		t.Errorf("a number may be twice in a ring")
	}
	if !IsRing(nil) || !IsRing([]api.Key{{Number: 1, Secret: "8 bytes."}, {Number: 2, Secret: "8 bytes."}}) {
		t.Errorf("a ring may not be empty, or have a secret twice")
	}
}
