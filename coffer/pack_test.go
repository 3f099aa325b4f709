package coffer

import (
	"crypto/sha256"
	"encoding/hex"
	"fmt"
	"math"
	"math/rand"
	"slices"
	"strings"
	"testing"

	"coffer/api"
)

const (
	most  = math.MaxInt64
	least = math.MinInt64
)

// ints and texts are cells; nil stands for null.
func ints(values ...any) []api.Cell {
	var cells []api.Cell
	for _, value := range values {
		if value == nil {
			cells = append(cells, api.Cell{Null: true})
		} else {
			cells = append(cells, api.Cell{Int: value.(int)})
		}
	}
	return cells
}

func texts(values ...any) []api.Cell {
	var cells []api.Cell
	for _, value := range values {
		if value == nil {
			cells = append(cells, api.Cell{Null: true})
		} else {
			cells = append(cells, api.Cell{Text: value.(string)})
		}
	}
	return cells
}

func repeat(times int, cells []api.Cell) []api.Cell {
	return slices.Repeat(cells, times)
}

// counted are n cells of what the function gives for 0, 1, 2 ..
func counted(n int, cell func(i int) api.Cell) []api.Cell {
	var cells []api.Cell
	for i := range n {
		cells = append(cells, cell(i))
	}
	return cells
}

func unhex(t testing.TB, text string) string {
	t.Helper()
	out, err := hex.DecodeString(strings.ReplaceAll(text, " ", ""))
	if err != nil {
		t.Fatal(err)
	}
	return string(out)
}

func wantPack(t *testing.T, kind int, cells []api.Cell, want string) {
	t.Helper()
	if page, e := Pack(kind, cells); page != want || e != api.OK {
		t.Errorf("P5: Pack(%d, %v) = %x, %d, want %x", kind, cells, page, e, want)
	}
}

func wantUnpack(t *testing.T, kind int, page string, want []api.Cell) {
	t.Helper()
	if cells, e := Unpack(kind, page); !slices.Equal(cells, want) || e != api.OK {
		t.Errorf("P6: Unpack(%d, %x) = %v, %d, want %v", kind, page, cells, e, want)
	}
}

func wantNoPage(t *testing.T, kind int, page string) {
	t.Helper()
	if cells, e := Unpack(kind, page); cells != nil || e != api.ErrPage {
		t.Errorf("P6: Unpack(%d, %.60x) = %v, %d, want nil, ErrPage", kind, page, cells, e)
	}
}

func wantNoCells(t *testing.T, kind int, cells []api.Cell) {
	t.Helper()
	if page, e := Pack(kind, cells); page != "" || e != api.ErrTable {
		t.Errorf("P5: Pack(%d, %v) = %x, %d, want \"\", ErrTable", kind, cells, page, e)
	}
}

// wantPageOrNone: what Unpack takes is the page of what it answers.
func wantPageOrNone(t *testing.T, kind int, page string) {
	t.Helper()
	cells, e := Unpack(kind, page)
	if e == api.OK && referencePage(kind, cells) == page {
		wantPack(t, kind, cells, page)
		return
	}
	if cells != nil || e != api.ErrPage {
		t.Errorf("P6: Unpack(%d, %.60x) = %v, %d: this is not their page", kind, page, cells, e)
	}
}

// The pages here were worked out from the document by another program.
var knownPages = []struct {
	name  string
	kind  int
	cells []api.Cell
	page  string
}{
	{"no numbers", api.Ints, nil, "00"},
	{"no texts", api.Texts, nil, "00"},
	{"the document's numbers", api.Ints, ints(5, nil, nil, 7), "04010201010a04"},
	{"the document's row", api.Ints, ints(7, 7, 7), "030302030e"},
	{"the document's texts", api.Texts, texts("ab", "abc"), "02020002616203616263"},

	{"one null", api.Ints, ints(nil), "010001"},
	{"one null among texts", api.Texts, texts(nil), "010001"},
	{"sixty nulls", api.Ints, repeat(60, ints(nil)), "3c003c"},
	{"sixty nulls among texts", api.Texts, repeat(60, texts(nil)), "3c003c"},
	{"null at the beginning", api.Ints, ints(nil, 3), "020001010106"},
	{"null in the middle", api.Ints, ints(3, nil, 4), "03010101010602"},
	{"null at the end", api.Ints, ints(3, nil), "0201010106"},
	{"null at all places", api.Texts, texts(nil, "x", nil, nil, "", "y", nil), "07000101020201000178000179"},
	{"nulls and values by turns", api.Ints, repeat(30, ints(nil, 1)), "3c00" + strings.Repeat("01", 60) + "021e02"},
	{"values and nulls by turns", api.Ints, repeat(30, ints(1, nil)), "3c" + strings.Repeat("01", 60) + "021e02"},

	{"zero", api.Ints, ints(0), "01010100"},
	{"minus one", api.Ints, ints(-1), "01010101"},
	{"63 takes one byte", api.Ints, ints(63, -64), "0202017efd01"},
	{"64 takes two", api.Ints, ints(64), "0101018001"},
	{"-65 takes two", api.Ints, ints(-65), "0101018101"},
	{"2^48 - 1 takes seven", api.Ints, ints(1<<48 - 1), "010101feffffffffff7f"},
	{"2^48 takes eight", api.Ints, ints(1 << 48), "0101000000000000000100"},
	{"2^55 takes nine", api.Ints, ints(1 << 55), "0101000000000000008000"},
	{"-2^55 - 1 takes nine", api.Ints, ints(-1<<55 - 1), "010100ffffffffffff7fff"},
	{"the greatest number", api.Ints, ints(most), "010100ffffffffffffff7f"},
	{"the least number", api.Ints, ints(least), "0101000000000000000080"},
	{"far apart", api.Ints, ints(1<<60, -1<<60, 1<<61), "030300000000000000001000000000000000f00000000000000020"},
	{"a step of -1 round", api.Ints, ints(least, most), "020201ffffffffffffffffff0101"},
	{"a step of 1 round", api.Ints, ints(most, least), "020201feffffffffffffffff0102"},
	{"a step of the least number", api.Ints, ints(0, least), "02020100ffffffffffffffffff01"},
	{"a step of the least number round", api.Ints, ints(-1, most), "02020101ffffffffffffffffff01"},
	{"round and back", api.Ints, ints(most, least, most, least, most, least), "060601feffffffffffffffff010201020102"},
	{"steps of two bytes", api.Ints, ints(0, 64, 0, -64), "0404010080017f7f"},
	{"sixty steps", api.Ints, counted(60, func(i int) api.Cell { return api.Cell{Int: i - 30} }), "3c3c013b" + strings.Repeat("02", 59)},
	{"a row of the greatest", api.Ints, repeat(12, ints(most)), "0c0c020cfeffffffffffffffff01"},
	{"two rows", api.Ints, ints(1000, 1000, 1000, 1000, -5, -5, -5, -5), "08080204d00f0409"},
	{"rows of one", api.Ints, ints(1<<55-1, 0), "02020201feffffffffffff7f0100"},
	{"sixty equal numbers", api.Ints, repeat(60, ints(0)), "3c3c023c00"},

	{"the empty text", api.Texts, texts(""), "01010000"},
	{"sixty empty texts", api.Texts, repeat(60, texts("")), "3c3c00" + strings.Repeat("00", 60)},
	{"twelve bytes", api.Texts, texts("zzzzzzzzzzzz"), "0101000c7a7a7a7a7a7a7a7a7a7a7a7a"},
	{"bytes that are no letters", api.Texts, texts("\xff\x00\x80", "\xff\x00", "\xc3"), "03030003ff008002ff0001c3"},
	{"places", api.Texts, texts("abcdef", "b", "abcdef", "abcdef"), "0404030206616263646566016200010000"},
	{"places past nulls", api.Texts, texts("north", nil, "south", "north", nil, "south", "north"), "0701010201020302056e6f72746805736f7574680001000100"},
	{"sixty places", api.Texts, repeat(30, texts("yes", "no")), "3c3c030203796573026e6f" + strings.Repeat("0001", 30)},
	{"a common beginning", api.Texts, texts("abcdef", "abcdeg"), "0202040006616263646566050167"},
	{"eleven bytes in common", api.Texts, texts("abcdefghijkl", "abcdefghijkm"), "020204000c6162636465666768696a6b6c0b016d"},
	{"twelve bytes in common", api.Texts, texts("abcdefghijkl", "abcdefghijkl"), "020203010c6162636465666768696a6b6c0000"},
	{"a beginning of the one ahead", api.Texts, texts("abcdefghijkl", "abcdef", "abcdefghijkl"), "030303020c6162636465666768696a6b6c06616263646566000100"},

	{"ways 0 and 1 of one length", api.Ints, ints(1<<55 - 1), "010100ffffffffffff7f00"},
	{"ways 0 and 1 of one length, below 0", api.Ints, ints(-1 << 55), "01010000000000000080ff"},
	{"ways 0 and 2 of one length", api.Ints, ints(most, 0, most), "030300ffffffffffffff7f0000000000000000ffffffffffffff7f"},
	{"ways 1 and 2 of one length", api.Ints, ints(9, 9, 8, 8), "04040112000100"},
	{"ways 0, 1 and 2 of one length", api.Ints, ints(1<<48, 1, 1<<55, 1<<62), "0404000000000000000100010000000000000000000000000080000000000000000040"},
	{"ways 0 and 3 of one length", api.Texts, texts("a", "a", "a"), "030300016101610161"},
	{"ways 0 and 4 of one length", api.Texts, texts("ab", "abc"), "02020002616203616263"},
	{"ways 3 and 4 of one length", api.Texts, texts("abc", "abc"), "02020301036162630000"},
	{"ways 0, 3 and 4 of one length", api.Texts, texts("ab", "ab"), "020200026162026162"},
}

func TestP5P6KnownPages(t *testing.T) {
	for _, c := range knownPages {
		t.Run(c.name, func(t *testing.T) {
			page := unhex(t, c.page)
			if referencePage(c.kind, c.cells) != page {
				t.Fatalf("the reference has another page: %x", referencePage(c.kind, c.cells))
			}
			wantPack(t, c.kind, c.cells, page)
			wantUnpack(t, c.kind, page, c.cells)
		})
	}
}

func TestP5P6GreatestPages(t *testing.T) {
	for _, c := range []struct {
		kind  int
		cells []api.Cell
		size  int
		sum   string
	}{
		{api.Texts, counted(60, func(i int) api.Cell { return api.Cell{Text: fmt.Sprintf("%c-greatest-%d", 'A'+i, i%10)} }), 783, "0e26fd72747d0bd56a7083ba0029c9c5b161fb39a27393a330900e8b405509e0"},
		{api.Texts, counted(60, func(i int) api.Cell { return api.Cell{Text: fmt.Sprintf("t%02d", i)} }), 190, "50217ed1b53ab721081f383476e4e5dbb3a3f778402bc5ee25c402571ce061d5"},
		{api.Ints, counted(60, func(i int) api.Cell { return api.Cell{Int: i * i * i} }), 124, "e182b68a2f1a43b58bc5c1b311a926df1f16b204ec1911ee07b5dbbf7db3d9c6"},
		{api.Ints, counted(60, func(i int) api.Cell { return api.Cell{Int: (i%2*2 - 1) * (1<<62 + i)} }), 483, "cd34e6d57f5a3b827a62ac0672ca81b8e1645b7c37f65fe5f3127e85a25394c6"},
	} {
		page, e := Pack(c.kind, c.cells)
		if sum := sha256.Sum256([]byte(page)); e != api.OK || len(page) != c.size || hex.EncodeToString(sum[:]) != c.sum {
			t.Errorf("P5: Pack(%d, %v) = %x, %d", c.kind, c.cells, page, e)
		}
		wantUnpack(t, c.kind, page, c.cells)
	}
}

func TestP5WrongKinds(t *testing.T) {
	for _, kind := range []int{-1, 2, 3, 4, 255, 256, 257, 1 << 32, 1<<32 + 1, most, least} {
		wantNoCells(t, kind, nil)
		wantNoCells(t, kind, ints(nil))
		wantNoCells(t, kind, ints(1, 2))
		wantNoCells(t, kind, texts("a"))
		for _, c := range knownPages {
			wantNoPage(t, kind, unhex(t, c.page))
		}
		wantNoPage(t, kind, "")
	}
}

func TestP5TooManyCells(t *testing.T) {
	for _, kind := range []int{api.Ints, api.Texts} {
		for _, cells := range [][]api.Cell{make([]api.Cell, 60), repeat(60, ints(nil)), repeat(30, ints(nil, nil))} {
			wantPack(t, kind, cells, referencePage(kind, cells))
			for _, n := range []int{61, 62, 120, 60000} {
				wantNoCells(t, kind, repeat(n, cells[:1]))
			}
		}
	}
}

func TestP5WrongCells(t *testing.T) {
	long := strings.Repeat("x", 13)
	for kind, wrong := range map[int][]api.Cell{
		api.Ints: {
			{Text: "x"}, {Int: 1, Text: "x"}, {Text: "\x00"},
			{Null: true, Int: 1}, {Null: true, Int: -1}, {Null: true, Int: least}, {Null: true, Text: "x"}, {Null: true, Int: 1, Text: "x"},
		},
		api.Texts: {
			{Int: 1}, {Int: -1}, {Int: least}, {Int: 1, Text: "x"}, {Text: long}, {Int: 1, Text: long},
			{Text: strings.Repeat("é", 7)}, {Text: strings.Repeat("\x00", 13)}, {Text: strings.Repeat("x", 268)}, {Text: strings.Repeat("x", 9000000)},
			{Null: true, Text: "x"}, {Null: true, Int: 1}, {Null: true, Text: long},
		},
	} {
		for _, cell := range wrong {
			for _, n := range []int{1, 2, 60} {
				for at := range n {
					cells := make([]api.Cell, n)
					cells[at] = cell
					wantNoCells(t, kind, cells)
				}
			}
		}
	}
	wantPack(t, api.Texts, texts(strings.Repeat("é", 6)), "\x01\x01\x00\x0c"+strings.Repeat("é", 6))
}

// The cells of one kind are none of the other, unless they are null, or 0 and "".
func TestP5P6TheKindsAreTwo(t *testing.T) {
	for _, c := range knownPages {
		other := api.Ints + api.Texts - c.kind
		plain := !slices.ContainsFunc(c.cells, func(cell api.Cell) bool { return cell.Int != 0 || cell.Text != "" })
		if plain {
			wantPack(t, other, c.cells, referencePage(other, c.cells))
		} else {
			wantNoCells(t, other, c.cells)
		}
		wantPageOrNone(t, other, unhex(t, c.page))
	}
}

func TestP6NoPages(t *testing.T) {
	for _, c := range []struct{ why, ints, texts string }{
		{"nothing", "", ""},
		{"a count without runs", "01", "3c"},
		{"no cells and more", "0000", "0001"},
		{"the count in more bytes than needed", "8000", "8100 01 00 01 61"},
		{"a run in more bytes than needed", "01 8100 01 0e", "01 8100 00 01 61"},
		{"a first run of 0 in more bytes than needed", "01 8000 01", "01 8000 01"},
		{"a value in more bytes than needed", "01 01 01 8000", "01 01 00 8100 61"},
		{"a later value in more bytes than needed", "02 02 01 02 8200", "02 02 00 01 61 8100 62"},
		{"a number of rows in more bytes than needed", "03 03 02 8300 0e", "02 02 03 8100 03 616263 00 00"},
		{"a place in more bytes than needed", "03 03 02 03 8e00", "02 02 03 01 03 616263 00 8000"},
		{"a number of 65 bits", "01 01 01 ffffffffffffffffff03", "ffffffffffffffffff03"},
		{"a number of 70 bits", "01 01 01 ffffffffffffffffff7f", "ffffffffffffffffff7f 00"},
		{"a number in eleven bytes", "01 01 01 ffffffffffffffffffff01", "ffffffffffffffffffff01"},
		{"a number in ten bytes where nine do", "01 01 01 ffffffffffffffffff00", "01 01 00 80808080808080808000"},
		{"the greatest count", "ffffffffffffffffff01", "ffffffffffffffffff01"},
		{"a count of 2^63", "80808080808080808001", "80808080808080808001 00"},
		{"61 cells", "3d 00 3d", "3d 00 3d"},
		{"61 values", "3d 3d 02 3d 00", "3d 3d 03 01 01 61" + strings.Repeat("00", 61)},
		{"128 cells", "8001 00 8001", "8001 00 8001"},
		{"2^32 + 1 cells", "8180808010 01 01 00", "8180808010 01 00 00"},
		{"a run that is too long", "01 02 01 0e", "01 02 00 01 61 01 61"},
		{"a run of nulls that is too long", "01 00 02", "02 01 02 00 01 61"},
		{"the greatest run", "01 ffffffffffffffffff01 01 0e", "02 00 feffffffffffffffff01"},
		{"runs that end ahead of the cells", "02 01 01 0e", "02 01 00 01 61"},
		{"a run of no nulls", "02 01 00 01 01 02 02", "02 01 00 01 00 01 61 01 62"},
		{"a run of no values in the middle", "03 00 01 00 02", "03 01 01 00 01 00 01 61"},
		{"a run of no values and no nulls", "01 00 00 01 01 0e", "01 00 00 01 00 01 61"},
		{"runs of nothing without end", "01" + strings.Repeat("00", 100), "02 01" + strings.Repeat("00", 100)},
		{"a run of nothing at the end", "01 01 00 01 0e", "01 00 01 00"},
		{"a run of nothing behind the values", "01 01 00 00 0e", "01 01 00 00 01 61"},
		{"a way where all are null", "01 00 01 01", "01 00 01 00"},
		{"no way where one is not null", "01 01", "01 01"},
		{"a way and no values", "01 01 01", "01 01 00"},
		{"a way of the other kind", "01 01 03 01 00 00", "01 01 01 02"},
		{"way 4, way 2", "01 01 04 00 00", "01 01 02 01 00"},
		{"a way that neither has", "01 01 05 0e", "01 01 05 01 61"},
		{"way 128", "01 01 80 0e", "01 01 80 01 61"},
		{"way 255", "01 01 ff 0e", "01 01 ff 01 61"},
		{"a way in more bytes than one", "01 01 8100 0e", "01 01 8000 01 61"},
		{"a way that is not the shortest", "01 01 02 01 0e", "01 01 03 01 01 61 00"},
		{"another way that is not the shortest", "01 01 00 0700000000000000", "01 01 04 00 01 61"},
		{"as short, but with a higher number", "02 02 02 02 d804", "02 02 04 00 02 6162 02 01 63"},
		{"as short, but with the highest number", "02 02 02 02 0e", "02 02 04 00 02 6162 02 00"},
		{"a value missing", "02 02 01 0a", "02 02 00 01 61"},
		{"a byte missing", "01 01 00 ffffffffffffff", "01 01 00 02 61"},
		{"a value more", "01 01 01 0e 00", "01 01 00 01 61 00"},
		{"a row that is too long", "03 03 02 04 0e", "03 03 03 01 04 61626364 00 00 01"},
		{"the greatest row", "03 03 02 ffffffffffffffffff01 0e", "02 02 03 ffffffffffffffffff01 01 61 00 00"},
		{"a row that is too short", "03 03 02 02 0e", "03 03 03 02 03 616263 00 00 00"},
		{"a row of none", "03 03 02 00 0e 03 0e", "01 01 03 00 00"},
		{"a row cut in two", "03 03 02 02 0e 01 0e", "03 03 03 02 03 616263 03 616263 00 01 00"},
		{"a row of none at the end", "03 03 02 03 0e 00 0e", "03 03 03 03 03 616263 00 00 00"},
		{"different ones in another order", "01 01 01 80", "03 03 03 02 03 616263 03 616264 01 00 01"},
		{"a different one that no one has", "01 01 01 ff", "03 03 03 02 03 616263 03 616264 00 00 00"},
		{"a place that none has", "02 02 01 0a", "02 02 03 01 03 616263 00 01"},
		{"thirteen bytes", "01 01 0d", "01 01 00 0d 61626364656667686970717273"},
		{"thirteen bytes among the different", "01 01 0d", "02 02 03 01 0d 61626364656667686970717273 00 00"},
		{"thirteen bytes by a step", "01 01 0d", "02 02 04 00 0c 616263646566676869707172 0b 02 7374"},
		{"twelve in common and one more", "01 01 0d", "02 02 04 00 0c 616263646566676869707172 0c 01 73"},
		{"more in common than there is", "01 01 0d", "02 02 04 00 01 61 02 01 62"},
		{"the greatest number in common", "01 01 0d", "02 02 04 00 01 61 ffffffffffffffffff01 01 62"},
		{"something in common with nothing", "01 01 0d", "02 02 04 01 01 61 01 01 62"},
		{"fewer in common than there are", "01 01 0d", "02 02 04 00 06 616263646566 04 02 6567"},
		{"the greatest length", "01 01 0d", "01 01 00 ffffffffffffffffff01 61"},
	} {
		t.Run(c.why, func(t *testing.T) {
			wantNoPage(t, api.Ints, unhex(t, c.ints))
			wantNoPage(t, api.Texts, unhex(t, c.texts))
		})
	}
}

// A page tells its own end: no beginning of one is a page, nor is one with
// something behind it.
func TestP6CutOrLengthened(t *testing.T) {
	for _, c := range knownPages {
		page := unhex(t, c.page)
		for n := range len(page) {
			wantNoPage(t, c.kind, page[:n])
		}
		for b := range 256 {
			wantNoPage(t, c.kind, page+string([]byte{byte(b)}))
		}
		wantNoPage(t, c.kind, page+page)
		wantPageOrNone(t, c.kind, "\x00"+page)
		for i := range len(page) {
			wantPageOrNone(t, c.kind, page[:i]+page[i+1:])
			wantPageOrNone(t, c.kind, page[:i]+page[i:i+1]+page[i:])
			wantPageOrNone(t, c.kind, page[:i]+"\x00"+page[i:])
			wantPageOrNone(t, c.kind, page[:i]+string([]byte{page[i] | 0x80, 0})+page[i+1:])
		}
	}
}

func TestP6OneByteTouched(t *testing.T) {
	for _, c := range knownPages {
		page := unhex(t, c.page)
		for i := range len(page) {
			for bits := 1; bits < 256; bits++ {
				wantPageOrNone(t, c.kind, flip(page, i, byte(bits)))
			}
		}
	}
}

// lists are all lists of up to most of the cells.
func lists(most int, cells []api.Cell) [][]api.Cell {
	all := [][]api.Cell{nil}
	for from, n := 0, 0; n < most; n++ {
		upTo := len(all)
		for ; from < upTo; from++ {
			for _, cell := range cells {
				all = append(all, append(slices.Clone(all[from]), cell))
			}
		}
	}
	return all
}

// wantOneWay: of all ways to write the cells down just one makes their page.
func wantOneWay(t *testing.T, kind int, cells []api.Cell) {
	t.Helper()
	page := referencePage(kind, cells)
	wantPack(t, kind, cells, page)
	wantUnpack(t, kind, page, cells)
	for _, other := range referenceWays(kind, cells) {
		if other != page {
			wantNoPage(t, kind, other)
		}
	}
}

func TestP5P6ManyLists(t *testing.T) {
	for kind, cells := range map[int][]api.Cell{
		api.Ints:  ints(nil, 0, 7, -64, 1<<55, least, most),
		api.Texts: texts(nil, "", "a", "ab", "abcdef", "abcdeg", "abcdefghijkl"),
	} {
		for _, list := range lists(5, cells) {
			wantOneWay(t, kind, list)
		}
	}
}

func TestP5P6LongLists(t *testing.T) {
	dice := rand.New(rand.NewSource(1))
	for range 3000 {
		span, nulls, letters := dice.Intn(64), dice.Intn(4), 1+dice.Intn(4)
		numbers := counted(dice.Intn(61), func(int) api.Cell {
			if dice.Intn(4) < nulls {
				return api.Cell{Null: true}
			}
			return api.Cell{Int: int(dice.Uint64()) >> span}
		})
		wantOneWay(t, api.Ints, numbers)
		words := counted(dice.Intn(61), func(int) api.Cell {
			if dice.Intn(4) < nulls {
				return api.Cell{Null: true}
			}
			text := make([]byte, dice.Intn(13))
			for i := range text {
				text[i] = byte(255 - dice.Intn(letters))
			}
			return api.Cell{Text: string(text)}
		})
		wantOneWay(t, api.Texts, words)
	}
}

// All texts of some bytes that stand in small pages: just those are taken
// that are the pages of small cells.
func TestP6AllShortTexts(t *testing.T) {
	const signs = "\x00\x01\x02\x03\x04a"
	pages := map[int]map[string]bool{api.Ints: {}, api.Texts: {}}
	for _, list := range lists(5, ints(nil, 0, -1, 1, -2, 2, -49, -3, 3)) {
		pages[api.Ints][referencePage(api.Ints, list)] = true
	}
	for _, list := range lists(5, texts(nil, "", "a", "\x00", "\x01", "\x02", "\x03", "\x04")) {
		pages[api.Texts][referencePage(api.Texts, list)] = true
	}
	for _, text := range shortTexts(6, signs) {
		for kind := range pages {
			wantPageOrNone(t, kind, text)
			if _, e := Unpack(kind, text); e != api.OK && pages[kind][text] {
				t.Errorf("P6: Unpack(%d, %x): error %d of a page", kind, text, e)
			}
		}
	}
}

// shortTexts are all texts of up to most of the signs.
func shortTexts(most int, signs string) []string {
	all := []string{""}
	for from, n := 0, 0; n < most; n++ {
		upTo := len(all)
		for ; from < upTo; from++ {
			for i := range len(signs) {
				all = append(all, all[from]+signs[i:i+1])
			}
		}
	}
	return all
}

func TestP1UnpackEndsAtTextsOfAnyLength(t *testing.T) {
	for _, kind := range []int{api.Ints, api.Texts, -1} {
		for b := range 256 {
			for _, n := range []int{1, 2, 3, 10, 11, 70, 5000, 65536} {
				text := strings.Repeat(string([]byte{byte(b)}), n)
				if b == 0 && n == 1 && kind >= 0 {
					wantUnpack(t, kind, text, nil)
					continue
				}
				wantNoPage(t, kind, text)
			}
		}
		for _, long := range []string{"\x00", "\x01", "\x7f", "\x80", "\xff", "\x3c\x3c\x02\x00", "\x02\x02\x03\x02"} {
			wantNoPage(t, kind, strings.Repeat(long, 9000000/len(long)))
			wantNoPage(t, kind, "\x3c\x3c\x02"+strings.Repeat(long, 9000000/len(long)))
		}
	}
}

func TestP2PackLeavesTheCells(t *testing.T) {
	for _, c := range knownPages {
		room := append(slices.Clone(c.cells), api.Cell{Int: 77, Text: "spare"}, api.Cell{Int: 78, Text: "room"})
		before := slices.Clone(room)
		wantPack(t, c.kind, room[:len(c.cells)], unhex(t, c.page))
		if !slices.Equal(room, before) {
			t.Errorf("P2: Pack wrote into its cells, or behind them: %v, then %v", before, room)
		}
	}
	wrong := append(repeat(61, texts("x")), api.Cell{Int: 1})
	before := slices.Clone(wrong)
	wantNoCells(t, api.Texts, wrong[:61])
	if !slices.Equal(wrong, before) {
		t.Errorf("P2: Pack wrote into cells that it refused")
	}
}

func TestP2PackKeepsNothingOfTheTexts(t *testing.T) {
	room, text := aliased("abcdefghijkl")
	for _, cells := range [][]api.Cell{texts(text), texts(text, text), texts(text, text[:6]), texts("", text)} {
		want := strings.Clone(referencePage(api.Texts, cells))
		page, _ := Pack(api.Texts, cells)
		copy(room, "............")
		if page != want {
			t.Errorf("P2: the page lives in a cell: %x, want %x", page, want)
		}
		copy(room, "abcdefghijkl")
	}
}

func TestP2UnpackKeepsNothingOfThePage(t *testing.T) {
	for _, c := range knownPages {
		page := unhex(t, c.page)
		room, text := aliased(page)
		cells, e := Unpack(c.kind, text)
		if string(room) != page || strings.Trim(string(room[len(room):cap(room)]), "\x00") != "" {
			t.Errorf("P2: Unpack wrote into %s", c.page)
		}
		for i := range room {
			room[i] ^= 0x55
		}
		if e != api.OK || !slices.Equal(cells, c.cells) {
			t.Errorf("P2: %s: the cells live in the page: %v, %d, want %v", c.name, cells, e, c.cells)
		}
	}
}

func TestP2UnpackAnswersNewMemory(t *testing.T) {
	for _, c := range knownPages {
		page := unhex(t, c.page)
		first, _ := Unpack(c.kind, page)
		second, _ := Unpack(c.kind, page)
		room := first[:cap(first)]
		for i := range room {
			room[i] = api.Cell{Null: true, Int: -9, Text: "the caller's"}
		}
		if !slices.Equal(second, c.cells) {
			t.Errorf("P2: %s: two answers share memory: %v", c.name, second)
		}
		wantUnpack(t, c.kind, page, c.cells)
		wantPack(t, c.kind, c.cells, page)
		for _, cell := range room {
			if cell.Int != -9 {
				t.Errorf("P2: %s: a later call changed an earlier answer", c.name)
			}
		}
	}
}

func FuzzP6UnpackGivesWhatPackTakes(f *testing.F) {
	for _, c := range knownPages {
		f.Add(c.kind, unhex(f, c.page))
	}
	f.Add(2, "\x00")
	f.Fuzz(func(t *testing.T, kind int, page string) {
		if kind != api.Ints && kind != api.Texts {
			wantNoPage(t, kind, page)
			return
		}
		wantPageOrNone(t, kind, page)
	})
}

func FuzzP5PackWritesThePage(f *testing.F) {
	f.Add(0, 5, "", true, -7, "", false, 9)
	f.Add(1, 0, "abc", true, 0, "abd", false, 60)
	f.Add(1, 0, "thirteenbytes", false, 1, "x", false, 61)
	f.Fuzz(func(t *testing.T, kind, n int, text string, between bool, m int, other string, null bool, count int) {
		list := []api.Cell{{Int: n, Text: text}, {Null: between}, {Null: null, Int: m, Text: other}}
		cells := repeat(21, list)[:max(0, min(count, 63))]
		page, e := Pack(kind, cells)
		if e == api.OK {
			wantOneWay(t, kind, cells)
		} else if page != "" || e != api.ErrTable {
			t.Errorf("P5: Pack(%d, %v) = %x, %d", kind, cells, page, e)
		}
	})
}
