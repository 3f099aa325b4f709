package files

import (
	"slices"
	"testing"

	"coffer/api"
)

func TestCut(t *testing.T) {
	for _, c := range []struct {
		rows, size int
		want       []span
	}{
		{0, 1, nil}, {0, 60, nil},
		{1, 1, []span{{0, 1}}}, {1, 60, []span{{0, 1}}}, {60, 60, []span{{0, 60}}},
		{2, 1, []span{{0, 1}, {1, 2}}}, {4, 2, []span{{0, 2}, {2, 4}}},
		{5, 2, []span{{0, 2}, {2, 4}, {4, 5}}}, {60, 59, []span{{0, 59}, {59, 60}}},
	} {
		if got := cut(c.rows, c.size); !slices.Equal(got, c.want) {
			t.Errorf("cut(%d, %d) = %v, want %v", c.rows, c.size, got, c.want)
		}
	}
}

func TestMeta(t *testing.T) {
	null := api.Cell{Null: true}
	for _, c := range []struct {
		kind  int
		cells []api.Cell
		want  string
	}{
		{api.Ints, []api.Cell{null}, "\x01\x00"},
		{api.Ints, slices.Repeat([]api.Cell{null}, 60), "\x3c\x00"},
		{api.Ints, []api.Cell{{}}, "\x00\x01\x00\x00"},
		{api.Ints, []api.Cell{{Int: 3}, null, {Int: -2}, {Int: 1}, null}, "\x02\x01\x03\x06"},
		{api.Ints, []api.Cell{null, {Int: 7}}, "\x01\x01\x0e\x0e"},
		{api.Ints, []api.Cell{null, {Int: -7}}, "\x01\x01\x0d\x0d"},
		{api.Ints, []api.Cell{{Int: 1<<63 - 1}, {Int: -1 << 63}}, "\x00\x01\xff\xff\xff\xff\xff\xff\xff\xff\xff\x01\xfe\xff\xff\xff\xff\xff\xff\xff\xff\x01"},
		{api.Texts, []api.Cell{{Text: "a"}}, "\x00\x00"},
		{api.Texts, []api.Cell{{Text: "a"}, null, {}}, "\x01\x00"},
		{api.Texts, []api.Cell{null, null}, "\x02\x00"},
	} {
		if got := meta(c.kind, c.cells); got != c.want {
			t.Errorf("meta(%d, %v) = %x, want %x", c.kind, c.cells, got, c.want)
		}
	}
}

func TestExtra(t *testing.T) {
	if got := (module{pageSort, 1, 2, 259}).extra("pre"); got != "\x03preP\x01\x00\x02\x00\x03\x01" {
		t.Errorf("the extra text of a page is %x", got)
	}
	if got := (module{sort: signSort}).extra("", "a footer"); got != "\x00S\x00\x00\x00\x00\x00\x00a footer" {
		t.Errorf("the extra text of a sign is %x", got)
	}
}

func TestFooter(t *testing.T) {
	f := footer{
		rows:    3,
		plan:    api.Plan{Group: 2, Page: 60, Foot: 9, Open: true},
		columns: []api.Column{{Name: "id", Kind: api.Ints, Key: 1}, {Name: "who", Kind: api.Texts}},
		places:  []int{4, 127, 128, 16384},
	}
	if got := f.text(); got != "\x03\x02\x3c\x09\x02\x02id\x00\x01\x03who\x01\x00\x04\x7f\x80\x01\x80\x80\x01" {
		t.Errorf("the footer is %x", got)
	}
}

func TestSecret(t *testing.T) {
	ring := []api.Key{{Number: 3, Secret: "three..."}, {Number: 1, Secret: "one....."}}
	for number, want := range map[int]string{0: "", 1: "one.....", 2: "", 3: "three...", -1: ""} {
		if got, has := Secret(ring, number); got != want || has != (want != "") {
			t.Errorf("Secret(%d) = %q, %t", number, got, has)
		}
	}
}
