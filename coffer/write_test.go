package coffer

import (
	"crypto/sha256"
	"encoding/hex"
	"fmt"
	"math/rand"
	"slices"
	"strings"
	"testing"

	"coffer/api"
)

// fullRing has all keys, the n-th with the secret "secret-n".
func fullRing() []api.Key {
	var ring []api.Key
	for n := 1; n <= 9; n++ {
		ring = append(ring, api.Key{Number: n, Secret: fmt.Sprintf("secret-%d", n)})
	}
	return ring
}

// without is the full ring but for some keys.
func without(numbers ...int) []api.Key {
	return slices.DeleteFunc(fullRing(), func(key api.Key) bool { return slices.Contains(numbers, key.Number) })
}

func column(name string, kind, key int, cells []api.Cell) api.Column {
	return api.Column{Name: name, Kind: kind, Key: key, Cells: cells}
}

// told is the sum of all that was sealed, each text with its length ahead.
func told(sealed []api.Sealed) string {
	var out []byte
	for _, s := range sealed {
		for _, text := range []string{s.Secret, s.Nonce, s.Extra, s.Body} {
			out = referenceText(out, text)
		}
	}
	sum := sha256.Sum256(out)
	return hex.EncodeToString(sum[:])
}

func mustWrite(t *testing.T, job api.Job, ring []api.Key) (string, []api.Sealed) {
	t.Helper()
	file, sealed, e := Write(job, ring)
	if e != api.OK {
		t.Fatalf("P7: Write(%v, %v): error %d", job, ring, e)
	}
	return file, sealed
}

// wantWrite: the job's file and what was sealed are those of the reference.
func wantWrite(t *testing.T, job api.Job, ring []api.Key) {
	t.Helper()
	file, sealed, e := Write(job, ring)
	if e != api.OK {
		t.Errorf("P7: Write(%v, %v): error %d", job, ring, e)
		return
	}
	wantFile, wantSealed := referenceWrite(job, ring)
	if file != wantFile {
		t.Errorf("P7: the file of %v is\n%x, want\n%x", job, file, wantFile)
	}
	if !slices.Equal(sealed, wantSealed) {
		t.Errorf("P7: for %v was sealed\n%q, want\n%q", job, sealed, wantSealed)
	}
}

func wantNoFile(t *testing.T, job api.Job, ring []api.Key, want api.Errno) {
	t.Helper()
	if file, sealed, e := Write(job, ring); file != "" || sealed != nil || e != want {
		t.Errorf("P7: Write(%.300v, %.100v) = %.60x, %.60q, %d, want error %d", job, ring, file, sealed, e, want)
	}
}

// The files and the sums of what was sealed for them were worked out from
// the document by another program.
var knownFiles = []struct {
	name, file, told string
	sealed           int
	job              api.Job
}{
	{"the document's example",
		"43464f030400010101020400010101040400000102040a00023c010301016e000004020000000000cdfb14004346",
		"3f4e9faf87f795a6f54fac56dd26fb5f2263e15260162f9758d2a24d6f200a1b", 1,
		api.Job{Table: []api.Column{column("n", api.Ints, 0, ints(1, 2))}, Plan: api.Plan{Group: 60, Page: 1, Foot: 3, Open: true}}},
	{"no rows, the footer sealed",
		"434645010f0000000000adb587c3cbd1b6dee4ed91fb014ca015004346",
		"876557c7ef02bc9e14ae0d4221441875248501c3ec64f85c14b0d8d35983f8eb", 1,
		api.Job{Table: []api.Column{column("a", api.Ints, 1, nil), column("b", api.Texts, 0, nil)}, Plan: api.Plan{Group: 1, Page: 60, Foot: 1}}},
	{"no rows, the footer open",
		"43464f090900003c3c0901016101090200ffff0000ca5813004346",
		"c845f7bcd8b9c38edee9b6a81824a5a160d21a205593aab0426b08f50029d40f", 1,
		api.Job{Table: []api.Column{column("a", api.Texts, 9, nil)}, Plan: api.Plan{Group: 60, Page: 60, Foot: 9, Open: true}, Prefix: "at", Draw: 65535}},
	{"one sealed column",
		"434645020900020100007a848e929babac22c40600020101001216142b43320c000201020030077e4b515630656d7794ea12004346",
		"3341e981fd82df4da76692356e20ad8ea13a38b2acae55056e6acaf511c8c487", 3,
		api.Job{Table: []api.Column{column("n", api.Ints, 1, ints(5, nil, nil, 7))}, Plan: api.Plan{Group: 60, Page: 60, Foot: 2}, Prefix: "p", Draw: 258}},
	{"one open column, the footer sealed",
		"434645070a0002020002616203616263020000000e0001000000e0d5ccf0ff067b7b7520282b063414004346",
		"74b77c75980bcd1a3b92d7d6fac4149df4ff4e3e5f2eb91af439a1fbca02b8ff", 1,
		api.Job{Table: []api.Column{column("who", api.Texts, 0, texts("ab", "abc"))}, Plan: api.Plan{Group: 60, Page: 60, Foot: 7}, Prefix: "here", Draw: 1}},
	{"groups and pages",
		"43464f030600010200006c757a8847830600010201000f141d2f692b060001020200a0a6a4b94cbc05000101000178030001000102000100060001020300a5aab2b99489070001020400373c444aad78d6040001020500d7de2acb060001020600141d22243a82060001020700b6bccac5b786060001010002797a02000000070001020800aab3b9c1b68b5c0400010209004c53f1331d00030201030302696400010377686f0100047768617401090428385b737f020001020a00a7db27004346",
		"186e6dd3fb736528a72a37107d34e8c53832319d91a82a3fa0027958437644af", 11,
		api.Job{Table: []api.Column{
			column("id", api.Ints, 1, ints(5, 6, 7)), column("who", api.Texts, 0, texts("x", nil, "yz")), column("what", api.Texts, 9, texts("", "\xff", "q")),
		}, Plan: api.Plan{Group: 2, Page: 1, Foot: 3, Open: true}, Prefix: "pre", Draw: 513}},
	{"a last group and a last page",
		"434645040700ffff00001118202a2f2e5a0700ffff0100b6b9c3cbd21f770600ffff0200474c555fab8e0600ffff0300e7eff7f8f92a05000202010001030002000203000100010400030101000700ffff04008a8d9799aa44700500ffff05001b2129dc0b0600ffff0600bac3cdc244c503000200020500010101800106000201800180011300ffff0700455159666b71198d909acfa9b0b38888bd77d219004346",
		"a65fd7ea21072a27608954c9c260f1de7ca389843ebe51a4b47f614d5cb3fa43", 8,
		api.Job{Table: []api.Column{
			column("n", api.Ints, 4, ints(1, 1, 1, 2, 2, 2, 9, nil)), column("m", api.Ints, 0, ints(0, -1, nil, nil, nil, nil, nil, 64)),
		}, Plan: api.Plan{Group: 5, Page: 2, Foot: 4}, Prefix: "12345678901234567890", Draw: 65535}},
	{"all null",
		"43464f050500000000003d464f7c22040000000100d3d8a622050000000200060b10523d040000000300949d3b01030002000202000200030002000202000200050000000400a4acb2a7de040000000500474db6040500000006006b717903dd0400000007000a124ae5030001000102000100030001000102000100240003020205040861626364656667680002017a0103016f00000174010004192e3740556a7302000000080089022e004346",
		"92788b1ac86e12a1d60eb569e371b2a13a772f5cea7abbb41aec33c761e6c14e", 9,
		api.Job{Table: []api.Column{
			column("abcdefgh", api.Ints, 2, ints(nil, nil, nil)), column("z", api.Texts, 3, texts(nil, nil, nil)),
			column("o", api.Ints, 0, ints(nil, nil, nil)), column("t", api.Texts, 0, texts(nil, nil, nil)),
		}, Plan: api.Plan{Group: 2, Page: 2, Foot: 5, Open: true}, Prefix: "\x00\xff"}},
	{"the least and the greatest",
		"434645081000ff0000008f969a5c564f48413a332c25e0ea5ea21800ff0001001f27d2cbc4bdb6afa8a19a6d8d857e777069625b54b32f121000ff000200c2c5cfd5231c150e0700f9f2eb1a0b2e0f00ff00030052589f98918a837c756e58afb57aa50e00ff000400f1fb0008f0e9e2dbd4cdc63f32d91800ff000500959a5c564f48413a332c25e016100902fbf4ede6df26a8fc0700ff000600242f353a4683fe0600ff000700c7cfd4de51501000ff000800606d7475858afc99a8a396d629c253ae16004346",
		"9477ccbb31f400c9a228df6978b475d78c2f6068e632bc1f600f7f9ddf56ac98", 9,
		api.Job{Table: []api.Column{column("n", api.Ints, 8, ints(most, least, 0, least, most, nil, -1, 1))}, Plan: api.Plan{Group: 2, Page: 2, Foot: 8}, Draw: 255}},
	{"six columns",
		"43464f090600000100009398a1a51b6b060000010100333b434a1cb7060000010200565f646d6f41060000010300f8fe070c217b050001010180010600000180018001060000010400060f151cabdb04000001050099a08e0c1200000106009ca5abbecdb7a2a2a3b9c388888c9a7580340400000107002f3673ba03000100010200010023000101010906016100010162000201630000016401010165010901660100041c3443597b020000010800a16d2d004346",
		"af07c761733ada2b56dc9d5e8cc31c6129247f719084d29722bbebe716eefbb9", 9,
		api.Job{Table: []api.Column{
			column("a", api.Ints, 1, ints(1)), column("b", api.Ints, 2, ints(-1)), column("c", api.Ints, 0, ints(64)),
			column("d", api.Texts, 1, texts("")), column("e", api.Texts, 9, texts("twelve bytes")), column("f", api.Texts, 0, texts(nil)),
		}, Plan: api.Plan{Group: 1, Page: 1, Foot: 9, Open: true}, Prefix: "x", Draw: 256}},
}

func TestP7KnownFiles(t *testing.T) {
	for _, c := range knownFiles {
		t.Run(c.name, func(t *testing.T) {
			want := unhex(t, c.file)
			if file, sealed := referenceWrite(c.job, fullRing()); file != want || told(sealed) != c.told {
				t.Fatalf("the reference has another file: %x, %q", file, sealed)
			}
			file, sealed := mustWrite(t, c.job, fullRing())
			if file != want {
				t.Errorf("P7: the file is\n%x, want\n%x", file, want)
			}
			if len(sealed) != c.sealed || told(sealed) != c.told {
				t.Errorf("P7: %d things were sealed, want %d: %q", len(sealed), c.sealed, sealed)
			}
		})
	}
}

func TestP7TheDocumentsExample(t *testing.T) {
	begins := "43464f03 0400 01010102 0400 01010104 0400 00010204 0a00 023c010301016e000004"
	for _, prefix := range []string{"", "p", strings.Repeat("\xff", 20)} {
		for _, draw := range []int{0, 1, 256, 65535} {
			job := knownFiles[0].job
			job.Prefix, job.Draw = prefix, draw
			file, _ := mustWrite(t, job, fullRing())
			want := unhex(t, begins)
			// Behind this stand a sign of 8 bytes, and an end of 4.
			if !strings.HasPrefix(file, want) || len(file) != len(want)+12 {
				t.Errorf("P7: the example's file is %x", file)
			}
		}
	}
}

// What is sealed for a small job, told in full.
func TestP7AllThatWasSealed(t *testing.T) {
	job := api.Job{Table: []api.Column{
		column("n", api.Ints, 1, ints(1, nil, 3)), column("o", api.Texts, 0, texts("a", "b", "c")), column("t", api.Texts, 2, texts("x", "y", "z")),
	}, Plan: api.Plan{Group: 2, Page: 1, Foot: 9}, Prefix: "here", Draw: 0x1234}
	footer := "\x03\x02\x01\x09\x03\x01n\x00\x01\x01o\x01\x00\x01t\x01\x02\x04\x27\x39\x5d\x75\x80\x01"
	want := []struct{ secret, nonce, place, plain string }{
		{"secret-1", "\x34\x12\x00\x00", "P\x00\x00\x00\x00\x00\x00", "\x01\x01\x01\x02"},
		{"secret-1", "\x34\x12\x01\x00", "P\x00\x00\x00\x00\x01\x00", "\x01\x00\x01"},
		{"secret-1", "\x34\x12\x02\x00", "M\x00\x00\x00\x00\x00\x00", "\x01\x01\x02\x02"},
		{"secret-2", "\x34\x12\x03\x00", "P\x00\x00\x02\x00\x00\x00", "\x01\x01\x00\x01x"},
		{"secret-2", "\x34\x12\x04\x00", "P\x00\x00\x02\x00\x01\x00", "\x01\x01\x00\x01y"},
		{"secret-2", "\x34\x12\x05\x00", "M\x00\x00\x02\x00\x00\x00", "\x00\x00"},
		{"secret-1", "\x34\x12\x06\x00", "P\x01\x00\x00\x00\x00\x00", "\x01\x01\x01\x06"},
		{"secret-1", "\x34\x12\x07\x00", "M\x01\x00\x00\x00\x00\x00", "\x00\x01\x06\x06"},
		{"secret-2", "\x34\x12\x08\x00", "P\x01\x00\x02\x00\x00\x00", "\x01\x01\x00\x01z"},
		{"secret-2", "\x34\x12\x09\x00", "M\x01\x00\x02\x00\x00\x00", "\x00\x00"},
		{"secret-9", "\x34\x12\x0a\x00", "F\x00\x00\x00\x00\x00\x00", footer},
	}
	for _, open := range []bool{false, true} {
		job.Plan.Open = open
		if open {
			want[10].place, want[10].plain = "S\x00\x00\x00\x00\x00\x00"+footer, ""
		}
		file, sealed := mustWrite(t, job, fullRing())
		if len(sealed) != len(want) {
			t.Fatalf("P7: %d things were sealed, want %d", len(sealed), len(want))
		}
		for i, s := range sealed {
			if s.Secret != want[i].secret || s.Nonce != want[i].nonce || s.Extra != "\x04here"+want[i].place {
				t.Errorf("P7: the %d-th that was sealed is %q", i, s)
			}
			wantOpen(t, s.Secret, s.Nonce, s.Extra, s.Body, want[i].plain)
			_, behind, found := strings.Cut(file, string([]byte{byte(len(s.Body)), 0})+s.Nonce+s.Body)
			if !found {
				t.Errorf("P7: the %d-th that was sealed stands not behind the one ahead", i)
			}
			file = behind
		}
	}
}

// bigTable has 60 rows of cells that take many bytes, in six sealed columns.
func bigTable(cell func(c, i int) (kind int, cell api.Cell)) []api.Column {
	table := make([]api.Column, 6)
	for c := range table {
		kind, _ := cell(c, 0)
		cells := counted(60, func(i int) api.Cell {
			_, cell := cell(c, i)
			return cell
		})
		table[c] = column("abcdefg"+string(rune('a'+c)), kind, c+1, cells)
	}
	return table
}

func mixedTable() []api.Column {
	return bigTable(func(c, i int) (int, api.Cell) {
		if i%7 == c {
			return c % 2, api.Cell{Null: true}
		}
		if c%2 == 0 {
			return 0, api.Cell{Int: (1-i%2*2)*(1<<62) + i*1000 + c}
		}
		return 1, api.Cell{Text: fmt.Sprintf("%c-greatest-%d", 'A'+i, c)}
	})
}

// numberTable has the greatest of all files: its last chunks begin behind
// 16384, at places of three bytes.
func numberTable() []api.Column {
	table := bigTable(func(c, i int) (int, api.Cell) {
		return 0, api.Cell{Int: (1 - i%2*2) * (1<<62 + i*1000 + c)}
	})
	for c := range table {
		table[c].Name = string(rune('a' + c))
	}
	return table
}

func openTable() []api.Column {
	table := mixedTable()
	for c := range table {
		table[c].Key = 0
	}
	return table
}

func TestP7GreatFiles(t *testing.T) {
	const prefix = "a prefix of 20 bytes"
	for _, c := range []struct {
		table      []api.Column
		plan       api.Plan
		prefix     string
		draw       int
		size       int
		file       string
		sealed     int
		sealedText string
	}{
		{mixedTable(), api.Plan{Group: 1, Page: 1, Foot: 1}, prefix, 65535, 14521, "fe2a3309f3dbf97374fc877bcf342349f042baf3afa22fa6ae4f1d6bd9e0867b", 721, "f01b8767dd67f275132e7b79bc2e24b5752cedfdc06a5d67da630594deb95323"},
		{mixedTable(), api.Plan{Group: 1, Page: 1, Foot: 9, Open: true}, prefix, 65535, 14523, "501f84120dfb5b1f15a617f0339717c82f9be516f115d1082d241c5b859437e5", 721, "871c56f7b8895cf8361746b1f2e37ee5bfd043b8093b1a6c3ea13d9e7897b936"},
		{mixedTable(), api.Plan{Group: 60, Page: 1, Foot: 2}, prefix, 65535, 7409, "6bc367e4cfdaac987f5645700a4d48315f9f426db73743ed47bb0a7b708bee85", 367, "df84a483380cbb48629468b163a5987b9887c1cb6ea636aa068d7eee9ec09323"},
		{mixedTable(), api.Plan{Group: 60, Page: 60, Foot: 2, Open: true}, prefix, 65535, 3620, "f3ebe41c25534124ee9314105739f4c6e86d36338959a026e833ac3c4218b648", 13, "2aac43b2f80f57a29d4d8aebe6b1acb14f02d3b3f9bfb72db609c12daee72ba6"},
		{mixedTable(), api.Plan{Group: 1, Page: 60, Foot: 3}, prefix, 65535, 14521, "6ae7465e3403ace59db4e33faa89065623987b1812a2a30f90d139fce7321a1e", 721, "ff95b399564976401b5dc115423d0ef96e4a1ef940c6b0399fac36f60b4dd201"},
		{mixedTable(), api.Plan{Group: 7, Page: 3, Foot: 3, Open: true}, prefix, 65535, 6247, "519ecba921370f7bfe516532dbd97e97852422cf45fea9776b45855e2cf7cacf", 211, "fca9acc0ac6e25aa1f0c10be87856fc57c99fec633113b4a956a899745b680c2"},
		{mixedTable(), api.Plan{Group: 31, Page: 30, Foot: 4}, prefix, 65535, 3876, "64e9a5e4b37d1a21e49b8d216fc2a993f2d7f98e529f172bddd6f16e2377f3d1", 31, "330a149e94f6f9e452dd3795fba4db5d45f43f36debf4b0b71ac0eabe938928f"},
		{mixedTable(), api.Plan{Group: 30, Page: 31, Foot: 5, Open: true}, prefix, 65535, 3814, "5a7c6c95e3bb59dd014f84fbcfcf1ebe24358f494fabe472b55b3cc6a62a8985", 25, "645df23b7cebcc9a9a67d7eb050524b482bd72ea5ba449747eb89c4b053f2b2e"},
		{mixedTable(), api.Plan{Group: 59, Page: 58, Foot: 5}, prefix, 65535, 3872, "cc892c331a6a51c51f6c4a1c8b1d94d10710f50bf5ad2d1e469859b8effddadb", 31, "9aca6c24af0f2163c85a74a594d520d06681abc014f3516066dfa0400980e19e"},
		{openTable(), api.Plan{Group: 1, Page: 1, Foot: 1}, "", 0, 10200, "ff555777749aa40f2e007b5ea61a34bcc0f133a0958214d618ba21d6f560ca46", 1, "cbb390ef8abf66f8f72f05e7bbba03a9841616f452d0a28af18d9a932db425e9"},
		{numberTable(), api.Plan{Group: 1, Page: 1, Foot: 9}, prefix, 65535, 18427, "673d68ebcc7b36fa9fee15d19bef5848adcbf6c0eeec0412011fc0c1dce7dda4", 721, "414032c095e1083b4d090d633aaaa5adfade12ed10f9e5ea4fd55074e6aae190"},
		{numberTable(), api.Plan{Group: 1, Page: 1, Foot: 9, Open: true}, prefix, 65535, 18429, "8869de4132babd50c6a5b11851ce188358f2c437028f3e739b4b45d910b6d1e9", 721, "e3fc4ec8232ec941aace11162bd7854eb39565ee25ab4230b5043ac420dfd475"},
	} {
		job := api.Job{Table: c.table, Plan: c.plan, Prefix: c.prefix, Draw: c.draw}
		file, sealed := mustWrite(t, job, fullRing())
		if sum := sha256.Sum256([]byte(file)); len(file) != c.size || hex.EncodeToString(sum[:]) != c.file {
			t.Errorf("P7: %v: another file, of %d bytes, want %d", c.plan, len(file), c.size)
		}
		if len(sealed) != c.sealed || told(sealed) != c.sealedText {
			t.Errorf("P7: %v: other things were sealed, %d of them, want %d", c.plan, len(sealed), c.sealed)
		}
		wantWrite(t, job, fullRing())
	}
}

func TestP7AllGroupsAndPages(t *testing.T) {
	rows := counted(60, func(i int) api.Cell { return api.Cell{Int: i * i} })
	names := counted(60, func(i int) api.Cell { return api.Cell{Text: strings.Repeat("n", i%5)} })
	for group := 1; group <= 60; group++ {
		for page := 1; page <= 60; page++ {
			n := []int{60, 59, group, min(60, group+page), (group*page + 1) % 61}[(group+page)%5]
			wantWrite(t, api.Job{
				Table: []api.Column{column("i", api.Ints, group%3, rows[:n]), column("t", api.Texts, page%2, names[:n])},
				Plan:  api.Plan{Group: group, Page: page, Foot: 1 + page%9, Open: group%2 == 0},
			}, fullRing())
		}
	}
}

// diceJob is some job that may be.
func diceJob(dice *rand.Rand) api.Job {
	rows := dice.Intn(1 + dice.Intn(61))
	span, nulls := dice.Intn(64), dice.Intn(5)
	table := make([]api.Column, 1+dice.Intn(6))
	for c := range table {
		kind := dice.Intn(2)
		cells := counted(rows, func(int) api.Cell {
			if dice.Intn(4) < nulls {
				return api.Cell{Null: true}
			}
			if kind == api.Ints {
				return api.Cell{Int: int(dice.Uint64()) >> span}
			}
			return api.Cell{Text: steps(dice.Intn(13), dice.Intn(3))}
		})
		name := strings.Repeat(string(rune('a'+dice.Intn(26))), dice.Intn(8)) + string(rune('a'+c))
		table[c] = column(name, kind, dice.Intn(10), cells)
	}
	return api.Job{
		Table:  table,
		Plan:   api.Plan{Group: 1 + dice.Intn(1+dice.Intn(60)), Page: 1 + dice.Intn(1+dice.Intn(60)), Foot: 1 + dice.Intn(9), Open: dice.Intn(2) == 0},
		Prefix: steps(dice.Intn(21), dice.Intn(256)),
		Draw:   dice.Intn(65536),
	}
}

func TestP7ManyJobs(t *testing.T) {
	dice := rand.New(rand.NewSource(3))
	for range 1500 {
		wantWrite(t, diceJob(dice), fullRing())
	}
}

// goodJob has two columns, one of them sealed, and the key 3 for its footer.
func goodJob() api.Job {
	return api.Job{
		Table: []api.Column{column("a", api.Ints, 1, ints(1, nil)), column("b", api.Texts, 0, texts("x", "y"))},
		Plan:  api.Plan{Group: 2, Page: 1, Foot: 3},
	}
}

// turned is the good job with something about it turned.
func turned(turn func(job *api.Job)) api.Job {
	job := goodJob()
	turn(&job)
	return job
}

func TestP7Names(t *testing.T) {
	named := func(name string) api.Job { return turned(func(job *api.Job) { job.Table[1].Name = name }) }
	for _, name := range []string{"z", "aa", "az", "abcdefgh", "zzzzzzzz", "aaaaaaaa"} {
		wantWrite(t, named(name), fullRing())
	}
	for _, name := range []string{"", "abcdefghi", strings.Repeat("b", 256+8), strings.Repeat("b", 9000000), "é", "bé", "b b", " b", "b ", "b\x00", "B", "bB", "b1", "b_", "\xff", "b-"} {
		wantNoFile(t, named(name), fullRing(), api.ErrTable)
	}
	for sign := range 256 {
		name := "b" + string([]byte{byte(sign)}) + "b"
		if sign >= 'a' && sign <= 'z' {
			wantWrite(t, named(name), fullRing())
		} else {
			wantNoFile(t, named(name), fullRing(), api.ErrTable)
		}
	}
}

func TestP7NamesDiffer(t *testing.T) {
	for n := 2; n <= 6; n++ {
		for one := range n {
			for other := range one {
				table := make([]api.Column, n)
				for c := range table {
					table[c] = column(string(rune('a'+c)), c%2, c%3, nil)
				}
				wantWrite(t, turned(func(job *api.Job) { job.Table = table }), fullRing())
				table[one].Name = table[other].Name
				wantNoFile(t, turned(func(job *api.Job) { job.Table = table }), fullRing(), api.ErrTable)
			}
		}
	}
	for _, pair := range [][2]string{{"a", "aa"}, {"abcdefgh", "abcdefgi"}, {"ab", "ba"}} {
		wantWrite(t, turned(func(job *api.Job) { job.Table[0].Name, job.Table[1].Name = pair[0], pair[1] }), fullRing())
	}
}

func TestP7NumbersOfColumnsAndRows(t *testing.T) {
	for _, rows := range []int{0, 1, 2, 59, 60, 61, 62, 120, 65536 + 60} {
		for _, columns := range []int{0, 1, 2, 5, 6, 7, 8, 27} {
			var table []api.Column
			for c := range columns {
				table = append(table, column(strings.Repeat("x", c/26)+string(rune('a'+c%26)), c%2, c%3, make([]api.Cell, rows)))
			}
			job := turned(func(job *api.Job) { job.Table = table })
			if rows <= 60 && columns >= 1 && columns <= 6 {
				wantWrite(t, job, fullRing())
			} else {
				wantNoFile(t, job, fullRing(), api.ErrTable)
			}
		}
	}
	wantNoFile(t, turned(func(job *api.Job) { job.Table = []api.Column{} }), fullRing(), api.ErrTable)
	wantNoFile(t, turned(func(job *api.Job) { job.Table = nil }), fullRing(), api.ErrTable)
}

func TestP7ColumnsHaveOneNumberOfCells(t *testing.T) {
	for _, numbers := range [][]int{{0, 1}, {1, 0}, {2, 1}, {1, 2}, {59, 60}, {60, 59}, {60, 61}, {61, 60}, {0, 61}, {2, 2, 1}, {2, 1, 2}, {1, 2, 2}, {0, 0, 0, 0, 0, 1}, {60, 60, 60, 60, 60, 0}} {
		var table []api.Column
		for c, n := range numbers {
			table = append(table, column(string(rune('a'+c)), api.Ints, 1, make([]api.Cell, n)))
		}
		wantNoFile(t, turned(func(job *api.Job) { job.Table = table }), fullRing(), api.ErrTable)
	}
}

func TestP7KindsAndKeys(t *testing.T) {
	for c := range 2 {
		for _, kind := range []int{-1, 2, 3, 255, 256, 257, 1 << 32, 1<<32 + 1, most, least} {
			wantNoFile(t, turned(func(job *api.Job) { job.Table[c].Kind = kind }), fullRing(), api.ErrTable)
			wantNoFile(t, turned(func(job *api.Job) { job.Table[c].Kind, job.Table[c].Cells = kind, repeat(2, ints(nil)) }), fullRing(), api.ErrTable)
		}
		for key := range 10 {
			wantWrite(t, turned(func(job *api.Job) { job.Table[c].Key = key }), fullRing())
		}
		for _, key := range []int{-1, -9, 10, 11, 256, 257, 1 << 32, 1<<32 + 1, most, least} {
			wantNoFile(t, turned(func(job *api.Job) { job.Table[c].Key = key }), fullRing(), api.ErrTable)
		}
	}
}

func TestP7WrongCells(t *testing.T) {
	wrong := map[int][]api.Cell{
		api.Ints:  {{Text: "x"}, {Int: 1, Text: "x"}, {Null: true, Int: 1}, {Null: true, Int: least}, {Null: true, Text: "x"}},
		api.Texts: {{Int: 1}, {Int: -1, Text: "x"}, {Text: strings.Repeat("x", 13)}, {Text: strings.Repeat("é", 7)}, {Null: true, Int: 1}, {Null: true, Text: "x"}},
	}
	for kind, cells := range wrong {
		for _, cell := range cells {
			for at := range 12 {
				table := make([]api.Column, 2)
				for c := range table {
					table[c] = column(string(rune('a'+c)), kind, c, make([]api.Cell, 6))
				}
				wantWrite(t, turned(func(job *api.Job) { job.Table = table }), fullRing())
				table[at/6].Cells[at%6] = cell
				wantNoFile(t, turned(func(job *api.Job) { job.Table = table }), fullRing(), api.ErrTable)
			}
		}
	}
	wantWrite(t, turned(func(job *api.Job) { job.Table[1].Cells[0].Text = strings.Repeat("é", 6) }), fullRing())
}

func TestP7Plans(t *testing.T) {
	for _, open := range []bool{false, true} {
		for _, n := range []int{1, 2, 59, 60} {
			wantWrite(t, turned(func(job *api.Job) { job.Plan.Group, job.Plan.Open = n, open }), fullRing())
			wantWrite(t, turned(func(job *api.Job) { job.Plan.Page, job.Plan.Open = n, open }), fullRing())
		}
		for _, n := range []int{0, -1, -60, 61, 62, 256, 257, 1 << 32, 1<<32 + 1, most, least} {
			wantNoFile(t, turned(func(job *api.Job) { job.Plan.Group, job.Plan.Open = n, open }), fullRing(), api.ErrPlan)
			wantNoFile(t, turned(func(job *api.Job) { job.Plan.Page, job.Plan.Open = n, open }), fullRing(), api.ErrPlan)
		}
		for n := 1; n <= 9; n++ {
			wantWrite(t, turned(func(job *api.Job) { job.Plan.Foot, job.Plan.Open = n, open }), fullRing())
		}
		for _, n := range []int{0, -1, 10, 11, 256, 257, 1 << 32, 1<<32 + 1, most, least} {
			wantNoFile(t, turned(func(job *api.Job) { job.Plan.Foot, job.Plan.Open = n, open }), fullRing(), api.ErrPlan)
		}
	}
}

func TestP7PrefixesAndDraws(t *testing.T) {
	for _, n := range []int{0, 1, 2, 19, 20} {
		wantWrite(t, turned(func(job *api.Job) { job.Prefix = steps(n, 77) }), fullRing())
	}
	for _, n := range []int{21, 22, 256, 276, 65536, 9000000} {
		wantNoFile(t, turned(func(job *api.Job) { job.Prefix = steps(n, 77) }), fullRing(), api.ErrPlan)
	}
	// Its length is counted in bytes, not in letters.
	wantWrite(t, turned(func(job *api.Job) { job.Prefix = strings.Repeat("é", 10) }), fullRing())
	wantNoFile(t, turned(func(job *api.Job) { job.Prefix = strings.Repeat("é", 11) }), fullRing(), api.ErrPlan)
	for _, draw := range []int{0, 1, 255, 256, 32767, 32768, 65534, 65535} {
		wantWrite(t, turned(func(job *api.Job) { job.Draw = draw }), fullRing())
	}
	for _, draw := range []int{-1, -65535, 65536, 65537, 1 << 32, most, least} {
		wantNoFile(t, turned(func(job *api.Job) { job.Draw = draw }), fullRing(), api.ErrPlan)
	}
}

func TestP7Rings(t *testing.T) {
	job := goodJob()
	file, sealed := mustWrite(t, job, fullRing())
	reverse := fullRing()
	slices.Reverse(reverse)
	for _, ring := range [][]api.Key{without(2), without(2, 4, 5, 6, 7, 8, 9), reverse} {
		got, list := mustWrite(t, job, ring)
		if got != file || !slices.Equal(list, sealed) {
			t.Errorf("P7: with the ring %v the file is another one", ring)
		}
	}
	// Two keys may have one secret, and a secret may be any bytes.
	wantWrite(t, job, []api.Key{{Number: 1, Secret: "\x00\xff\x80\x00\x00\x00\x00\x00"}, {Number: 3, Secret: "\x00\xff\x80\x00\x00\x00\x00\x00"}})
	wantWrite(t, job, []api.Key{{Number: 3, Secret: "éééé"}, {Number: 1, Secret: "\xff\xff\xff\xff\xff\xff\xff\xff"}})
}

func TestP7WrongRings(t *testing.T) {
	for at := range 9 {
		for _, number := range []int{0, -1, 10, 11, 256, 257, 1 << 32, 1<<32 + 1, most, least} {
			ring := fullRing()
			ring[at].Number = number
			wantNoFile(t, goodJob(), ring, api.ErrKey)
		}
		for _, n := range []int{0, 1, 7, 9, 16, 256 + 8, 9000000} {
			ring := fullRing()
			ring[at].Secret = steps(n, 1)
			wantNoFile(t, goodJob(), ring, api.ErrKey)
		}
		ring := fullRing()
		ring[at].Secret = strings.Repeat("é", 8)
		wantNoFile(t, goodJob(), ring, api.ErrKey)
		for other := range 9 {
			wantNoFile(t, goodJob(), append(fullRing(), fullRing()[at]), api.ErrKey)
			if ring := fullRing(); other != at {
				ring[at].Number = ring[other].Number
				wantNoFile(t, goodJob(), ring, api.ErrKey)
				ring[at].Secret = ring[other].Secret
				wantNoFile(t, goodJob(), ring, api.ErrKey)
			}
		}
	}
	wantNoFile(t, goodJob(), []api.Key{{}}, api.ErrKey)
	wantNoFile(t, goodJob(), make([]api.Key, 100000), api.ErrKey)
	wantNoFile(t, goodJob(), slices.Repeat(fullRing(), 20000), api.ErrKey)
}

func TestP7MissingKeys(t *testing.T) {
	for _, open := range []bool{false, true} {
		job := turned(func(job *api.Job) { job.Plan.Open = open })
		for _, ring := range [][]api.Key{nil, {}, without(1), without(3), without(1, 3)} {
			wantNoFile(t, job, ring, api.ErrNoKey)
		}
		// Foot must be there, be all columns open or there no rows.
		bare := turned(func(job *api.Job) { job.Plan.Open, job.Table[0].Key = open, 0 })
		wantWrite(t, bare, without(1))
		wantNoFile(t, bare, without(3), api.ErrNoKey)
		wantNoFile(t, bare, nil, api.ErrNoKey)
		empty := turned(func(job *api.Job) { job.Plan.Open, job.Table = open, []api.Column{column("a", api.Ints, 1, nil)} })
		wantWrite(t, empty, without(2))
		wantNoFile(t, empty, without(3), api.ErrNoKey)
		wantNoFile(t, empty, without(1), api.ErrNoKey)
		for c := range 6 {
			job := turned(func(job *api.Job) { job.Plan.Open, job.Table = open, mixedTable() })
			wantNoFile(t, job, without(c+1), api.ErrNoKey)
		}
		wantWrite(t, turned(func(job *api.Job) { job.Plan.Open, job.Table = open, mixedTable() }), without(7, 8, 9))
	}
}

// Of several errors the one is answered that P7 names first.
func TestP1WriteFirstErrorNamed(t *testing.T) {
	fine := func(job *api.Job) {}
	tables := []func(job *api.Job){
		fine,
		func(job *api.Job) { job.Table = nil },
		func(job *api.Job) { job.Table[1].Name = "" },
		func(job *api.Job) { job.Table[0].Key = 10 },
		func(job *api.Job) { job.Table[1].Cells = job.Table[1].Cells[:1] },
		func(job *api.Job) { job.Table[1].Cells[1].Null = true },
	}
	plans := []func(job *api.Job){
		fine,
		func(job *api.Job) { job.Plan = api.Plan{} },
		func(job *api.Job) { job.Plan.Group = 61 },
		func(job *api.Job) { job.Plan.Foot = 10 },
		func(job *api.Job) { job.Prefix = steps(21, 1) },
		func(job *api.Job) { job.Draw = -1 },
	}
	rings := []struct {
		ring []api.Key
		want api.Errno
	}{
		{without(2), api.OK},
		{append(without(1, 3), api.Key{Number: 10, Secret: "secret-x"}), api.ErrKey},
		{append(fullRing(), api.Key{Number: 9, Secret: "secret-9"}), api.ErrKey},
		{[]api.Key{{Number: 3, Secret: "short"}}, api.ErrKey},
		{nil, api.ErrNoKey},
		{without(1), api.ErrNoKey},
		{without(3), api.ErrNoKey},
	}
	for i, table := range tables {
		for k, plan := range plans {
			for _, c := range rings {
				job := turned(func(job *api.Job) { table(job); plan(job) })
				want := c.want
				if k > 0 {
					want = api.ErrPlan
				}
				if i > 0 {
					want = api.ErrTable
				}
				if want == api.OK {
					wantWrite(t, job, c.ring)
					continue
				}
				wantNoFile(t, job, c.ring, want)
			}
		}
	}
	wantNoFile(t, api.Job{}, nil, api.ErrTable)
}

func TestP1WriteEndsAtLongLists(t *testing.T) {
	long := make([]api.Cell, 3000000)
	wantNoFile(t, turned(func(job *api.Job) { job.Table[0].Cells, job.Table[1].Cells = long, long }), fullRing(), api.ErrTable)
	wantNoFile(t, turned(func(job *api.Job) { job.Table = slices.Repeat(job.Table, 300000) }), fullRing(), api.ErrTable)
	wantNoFile(t, goodJob(), make([]api.Key, 3000000), api.ErrKey)
	wantNoFile(t, turned(func(job *api.Job) { job.Table[1].Cells[0].Text = steps(9000000, 1) }), fullRing(), api.ErrTable)
}

// roomy is a copy of a list with two more elements in its spare room.
func roomy[T any](list []T, behind T) []T {
	return append(slices.Clone(list), behind, behind)[:len(list)]
}

// roomyJob is a copy of a job, all of its lists with something behind them.
func roomyJob(job api.Job) api.Job {
	job.Table = roomy(job.Table, column("spare", api.Texts, 5, texts("room")))
	for c := range job.Table {
		job.Table[c].Cells = roomy(job.Table[c].Cells, api.Cell{Int: 77, Text: "spare"})
	}
	return job
}

func sameColumns(a, b []api.Column) bool {
	return slices.EqualFunc(a[:cap(a)], b[:cap(b)], func(a, b api.Column) bool {
		return a.Name == b.Name && a.Kind == b.Kind && a.Key == b.Key && slices.Equal(a.Cells[:cap(a.Cells)], b.Cells[:cap(b.Cells)])
	})
}

func TestP2WriteLeavesJobAndRing(t *testing.T) {
	behind := api.Key{Number: 1, Secret: "spare"}
	for _, c := range knownFiles {
		job, ring := roomyJob(c.job), roomy(fullRing(), behind)
		before, beforeRing := roomyJob(c.job), roomy(fullRing(), behind)
		file, sealed := mustWrite(t, job, ring)
		if file != unhex(t, c.file) || told(sealed) != c.told {
			t.Errorf("P2: %s: the file hangs on spare room", c.name)
		}
		wantNoFile(t, job, ring[:len(ring)+1], api.ErrKey)
		wantNoFile(t, job, ring[:0], api.ErrNoKey)
		if !sameColumns(job.Table, before.Table) || !slices.Equal(ring[:cap(ring)], beforeRing[:cap(beforeRing)]) {
			t.Errorf("P2: %s: Write wrote into its job or its ring", c.name)
		}
	}
}

// Texts whose bytes are written over behind the call show what it has kept.
func TestP2WriteKeepsNothingOfItsTexts(t *testing.T) {
	prefixRoom, prefix := aliased("a prefix")
	nameRoom, name := aliased("name")
	cellRoom, cell := aliased("twelve bytes")
	secretRoom, secret := aliased("secret-1")
	footRoom, foot := aliased("secret-2")
	for _, open := range []bool{false, true} {
		for _, key := range []int{0, 1, 2} {
			job := api.Job{
				Table: []api.Column{column(name, api.Texts, key, texts(cell, cell[:3]))}, Prefix: prefix, Draw: 7,
				Plan: api.Plan{Group: 1, Page: 1, Foot: 2, Open: open},
			}
			ring := []api.Key{{Number: 1, Secret: secret}, {Number: 2, Secret: foot}}
			want, wantSealed := referenceWrite(job, ring)
			for i := range wantSealed {
				wantSealed[i].Secret = strings.Clone(wantSealed[i].Secret)
			}
			file, sealed := mustWrite(t, job, ring)
			rooms := [][]byte{prefixRoom, nameRoom, cellRoom, secretRoom, footRoom}
			var before []string
			for _, room := range rooms {
				before = append(before, string(room))
				if strings.Trim(string(room[len(room):cap(room)]), "\x00") != "" {
					t.Errorf("P2: Write wrote behind %q", room)
				}
				clear(room)
			}
			if file != want || !slices.Equal(sealed, wantSealed) {
				t.Errorf("P2: the answer lives in the job or the ring: %x, %q", file, sealed)
			}
			for i, room := range rooms {
				copy(room, before[i])
			}
		}
	}
	if string(prefixRoom)+string(nameRoom)+string(cellRoom)+string(secretRoom)+string(footRoom) != "a prefixnametwelve bytessecret-1secret-2" {
		t.Errorf("P2: Write wrote into a text")
	}
}

func TestP2WriteAnswersNewMemory(t *testing.T) {
	for _, c := range knownFiles {
		_, first := mustWrite(t, c.job, fullRing())
		_, second := mustWrite(t, c.job, fullRing())
		room := first[:cap(first)]
		for i := range room {
			room[i] = api.Sealed{Secret: "the", Nonce: "caller's"}
		}
		if told(second) != c.told {
			t.Errorf("P2: %s: two answers share memory", c.name)
		}
		if file, third := mustWrite(t, c.job, fullRing()); file != unhex(t, c.file) || told(third) != c.told {
			t.Errorf("P2: %s: a later answer was changed by writing into an earlier one", c.name)
		}
		if slices.ContainsFunc(room, func(s api.Sealed) bool { return s.Nonce != "caller's" }) {
			t.Errorf("P2: %s: a later call changed an earlier answer", c.name)
		}
	}
}

func TestP2WriteHangsOnItsArgumentsAlone(t *testing.T) {
	for range 3 {
		for _, c := range knownFiles {
			if file, sealed := mustWrite(t, c.job, fullRing()); file != unhex(t, c.file) || told(sealed) != c.told {
				t.Errorf("P2: %s: called again, Write answers something else", c.name)
			}
			wantNoFile(t, c.job, nil, api.ErrNoKey)
		}
	}
}

func FuzzP7WriteIsTheReferences(f *testing.F) {
	f.Add("a", "b", 0, 1, 1, 0, 5, "text", 3, 2, 1, 3, true, "prefix", 7, 1, "secret-1")
	f.Add("abcdefgh", "z", 1, 0, 9, 2, least, "", 60, 60, 60, 9, false, "", 65535, 9, "\x00\x00\x00\x00\x00\x00\x00\x00")
	f.Add("", "", -1, 2, -1, 10, most, "thirteenbytes", 61, 0, 61, 0, false, "more than twenty bytes", -1, 0, "")
	f.Fuzz(func(t *testing.T, name, other string, kind, otherKind, key, otherKey, n int, text string, rows, group, page, foot int, open bool, prefix string, draw, number int, secret string) {
		cells := func(kind, turn int) []api.Cell {
			return counted(max(0, min(rows, 70)), func(i int) api.Cell {
				if (i+turn)%4 == 3 {
					return api.Cell{Null: true}
				}
				if kind == api.Ints {
					return api.Cell{Int: n * (i % 3)}
				}
				return api.Cell{Text: text[i%(len(text)+1):]}
			})
		}
		job := api.Job{
			Table:  []api.Column{column(name, kind, key, cells(kind, 0)), column(other, otherKind, otherKey, cells(otherKind, 1))},
			Plan:   api.Plan{Group: group, Page: page, Foot: foot, Open: open},
			Prefix: prefix, Draw: draw,
		}
		ring := append(without(number), api.Key{Number: number, Secret: secret})
		file, sealed, e := Write(job, ring)
		if e == api.OK {
			wantWrite(t, job, ring)
		} else if file != "" || sealed != nil {
			t.Errorf("P1: Write tells %x, %q with error %d", file, sealed, e)
		}
	})
}
