package coffer

import (
	"fmt"
	"slices"
	"strings"
	"testing"

	"coffer/api"
)

// one is a file of one open column and one row, its page this text.
func one(open bool, page string) string {
	job := api.Job{Table: []api.Column{column("n", api.Ints, 0, ints(5)), column("m", api.Ints, 1, ints(6))}, Plan: api.Plan{Group: 1, Page: 1, Foot: 3, Open: open}}
	d := draftOf(job, fullRing())
	d.chunks[0][0].plain = page
	return d.file()
}

func TestP8FilesOf65000Bytes(t *testing.T) {
	for _, open := range []bool{false, true} {
		for _, trust := range []bool{false, true} {
			wantRead(t, one(open, "\x01\x01\x01\x0a"), "", fullRing(), trust, []api.Found{
				{Name: "n", Cells: ints(5)}, {Name: "m", Key: 1, Cells: ints(6)},
			})
			for _, size := range []int{64000, 64999, 65000} {
				// The places of the chunks take as many bytes in all of these.
				page := strings.Repeat("x", size-len(one(open, steps(60000, 0)))+60000)
				file := one(open, page)
				if len(file) != size {
					t.Fatalf("a file of %d bytes has %d", size, len(file))
				}
				wantRead(t, file, "", fullRing(), trust, []api.Found{
					{Name: "n", State: api.Broken}, {Name: "m", Key: 1, Cells: ints(6)},
				})
				if size == 65000 {
					wantNoRead(t, one(open, page+"x"), "", fullRing(), trust, api.ErrFile)
					wantNoRead(t, one(open, page+"xx"), "", fullRing(), trust, api.ErrFile)
				}
			}
			wantNoRead(t, one(open, strings.Repeat("x", 65400)), "", nil, trust, api.ErrFile)
		}
	}
	wantNoRead(t, strings.Repeat("x", 9000000), "", nil, false, api.ErrFile)
	wantNoRead(t, "CFE\x03"+strings.Repeat("\x00", 9000000)+"CF", "", fullRing(), false, api.ErrFile)
}

func TestP8Foot(t *testing.T) {
	for foot := range 256 {
		for _, open := range []bool{false, true} {
			job := small(open)
			job.Plan.Foot = 1 + foot%9
			if foot >= 1 && foot <= 9 {
				job.Plan.Foot = foot
				file, _ := mustWrite(t, job, fullRing())
				wantReadWritten(t, job, file, fullRing())
				wantReadWritten(t, job, file, without(foot))
				continue
			}
			d := draftOf(job, fullRing())
			d.head = d.head[:3] + string([]byte{byte(foot)})
			d.footer = func(places []int) string {
				job.Plan.Foot = foot
				return referenceFooter(job, places)
			}
			file := d.file()
			for _, trust := range []bool{false, true} {
				wantNoRead(t, file, "pre", fullRing(), trust, api.ErrFile)
				wantNoRead(t, file, "pre", nil, trust, api.ErrFile)
			}
		}
	}
}

// A Foot that stands in the footer is that of the file's beginning.
func TestP8FootOfTheFooter(t *testing.T) {
	for foot := 1; foot <= 9; foot++ {
		for other := 1; other <= 9; other++ {
			for _, open := range []bool{false, true} {
				job := small(open)
				job.Plan.Foot = foot
				d := draftOf(job, fullRing())
				d.footer = func(places []int) string {
					told := job
					told.Plan.Foot = other
					return referenceFooter(told, places)
				}
				if foot == other {
					wantReadWritten(t, job, d.file(), fullRing())
					continue
				}
				for _, trust := range []bool{false, true} {
					wantNoRead(t, d.file(), "pre", fullRing(), trust, api.ErrFile)
				}
			}
		}
	}
}

func TestP8Marks(t *testing.T) {
	for _, open := range []bool{false, true} {
		file := drafted(open, func(*referenceDraft) {})
		for _, at := range []int{0, 1, 2, len(file) - 2, len(file) - 1} {
			for b := range 256 {
				if touched := touch(file, at, byte(b)); touched != file {
					wantNoRead(t, touched, "pre", nil, true, api.ErrFile)
					wantNoRead(t, touched, "pre", fullRing(), true, api.ErrFile)
				}
			}
		}
	}
	for _, file := range []string{"", "C", "CF", "CFE", "CFO\x03", "CFE\x03CF", "CFO\x03CF", "CFE\x03\x00CF", "CFE\x03\x00\x00CF", "CFO\x03\x00\x00CF", "CFCF", "CFE\x03\x01\x00CF", "CFE\x03\x04\x00CF"} {
		for _, trust := range []bool{false, true} {
			wantNoRead(t, file, "", nil, trust, api.ErrFile)
			wantNoRead(t, file, "", fullRing(), trust, api.ErrFile)
		}
	}
}

func touch(text string, at int, b byte) string {
	return text[:at] + string([]byte{b}) + text[at+1:]
}

// The module of a footer part that begins ahead of 4 would be one, as far as
// its own bytes go.
func TestP8WhereTheFooterPartBegins(t *testing.T) {
	const body = "12345678"
	behind := func(head string, size int) string { return head + "\x08\x00nonc" + body + referenceTwo(size) + "CF" }
	// At 4 it begins, and the key is asked for.
	wantNoRead(t, behind("CFE\x08", 14), "", nil, false, api.ErrNoKey)
	wantNoRead(t, behind("CFE\x08", 14), "", fullRing(), false, api.ErrSeal)
	wantNoRead(t, behind("CFE\x08....", 14), "", nil, false, api.ErrNoKey)
	// At 3: its length begins with Foot.
	wantNoRead(t, "CFE\x08\x00nonc"+body+referenceTwo(14)+"CF", "", nil, false, api.ErrFile)
	// At 2: its length is `E` and Foot, 69 and 256 times 3.
	wantNoRead(t, "CFE\x03nonc"+strings.Repeat("x", 837)+referenceTwo(843)+"CF", "", nil, false, api.ErrFile)
	// At 0: its length is `CF`, 67 and 256 times 70.
	wantNoRead(t, "CFE\x03no"+strings.Repeat("x", 17987)+referenceTwo(17993)+"CF", "", nil, false, api.ErrFile)
	for _, size := range []int{0, 1, 2, 5, 6, 7, 13, 15, 16, 17, 18, 19, 255, 256, 256 + 14, 65535} {
		wantNoRead(t, behind("CFE\x08", size), "", nil, false, api.ErrFile)
		wantNoRead(t, behind("CFE\x08", size), "", fullRing(), true, api.ErrFile)
	}
	// Told openly, the footer stands ahead of the sign.
	wantNoRead(t, "CFO\x02\x00no\x02\x00noncxx"+referenceTwo(12)+"CF", "", nil, true, api.ErrFile)
	empty := api.Job{Table: []api.Column{column("a", api.Ints, 1, nil)}, Plan: api.Plan{Group: 1, Page: 1, Foot: 3, Open: true}}
	file, _ := mustWrite(t, empty, fullRing())
	wantRead(t, file, "", nil, true, foundOf(empty, nil))
	end := len(file) - 4
	for size := range 300 {
		if size != end-4 {
			wantNoRead(t, file[:end]+referenceTwo(size)+"CF", "", fullRing(), true, api.ErrFile)
		}
	}
}

// rawSealed is a sealed module of a nonce and these bytes.
func rawSealed(body string) string {
	return referenceTwo(len(body)) + "nonc" + body
}

func TestP8BodiesOfTwoBytesAndLess(t *testing.T) {
	for _, body := range []string{"", "x"} {
		for _, ring := range [][]api.Key{nil, fullRing()} {
			hidden := drafted(false, func(d *referenceDraft) {
				d.part = func(string) []referenceModule { return []referenceModule{{raw: rawSealed(body)}} }
			})
			wantNoRead(t, hidden, "pre", ring, false, api.ErrFile)
			told := drafted(true, func(d *referenceDraft) {
				d.part = func(footer string) []referenceModule {
					return []referenceModule{{plain: footer}, {raw: rawSealed(body)}}
				}
			})
			wantNoRead(t, told, "pre", ring, false, api.ErrFile)
			wantNoRead(t, told, "pre", ring, true, api.ErrFile)
			// So are those of columns, be they locked or not.
			for _, at := range []struct{ chunk, module int }{{0, 0}, {0, 1}, {0, 2}, {5, 0}, {5, 1}} {
				file := drafted(true, func(d *referenceDraft) { d.chunks[at.chunk][at.module].raw = rawSealed(body) })
				wantNoRead(t, file, "pre", ring, true, api.ErrFile)
			}
		}
	}
	job := small(true)
	// Two bytes are a body, of the empty text if the seal fits.
	hidden := func(body string) string {
		return drafted(false, func(d *referenceDraft) {
			d.part = func(string) []referenceModule { return []referenceModule{{raw: rawSealed(body)}} }
		})
	}
	wantNoRead(t, hidden("xx"), "pre", nil, false, api.ErrNoKey)
	wantNoRead(t, hidden("xx"), "pre", fullRing(), false, api.ErrSeal)
	wantNoRead(t, hidden(referenceBody("secret-3", "nonc", "\x03preF\x00\x00\x00\x00\x00\x00", "")), "pre", fullRing(), false, api.ErrFile)
	told := drafted(true, func(d *referenceDraft) {
		d.part = func(footer string) []referenceModule {
			return []referenceModule{{plain: footer}, {raw: rawSealed("xx")}}
		}
	})
	wantNoRead(t, told, "pre", fullRing(), false, api.ErrSeal)
	wantRead(t, told, "pre", fullRing(), true, foundOf(job, fullRing()))
	for c, at := range map[int]int{0: 3, 2: 5} {
		file := drafted(true, func(d *referenceDraft) { d.chunks[at][0].raw = rawSealed("xx") })
		wantRead(t, file, "pre", fullRing(), false, broken(foundOf(job, fullRing()), c))
		wantRead(t, file, "pre", nil, true, foundOf(job, nil))
	}
	// In an open column a module may be empty, and is no page then.
	for _, m := range []int{0, 1, 2} {
		file := drafted(true, func(d *referenceDraft) { d.chunks[1][m].plain = "" })
		wantRead(t, file, "pre", fullRing(), false, broken(foundOf(job, fullRing()), 1))
	}
}

// A body of more than 5,002 bytes is opened by no secret.
func TestP8LongBodies(t *testing.T) {
	long := func(n int) string {
		return drafted(false, func(d *referenceDraft) { d.footer = func([]int) string { return strings.Repeat("f", n) } })
	}
	wantNoRead(t, long(5000), "pre", fullRing(), false, api.ErrFile)
	for _, n := range []int{5001, 5002, 6000, 50000} {
		wantNoRead(t, long(n), "pre", fullRing(), false, api.ErrSeal)
		wantNoRead(t, long(n), "pre", without(3), false, api.ErrNoKey)
	}
	for _, n := range []int{5000, 5001, 50000} {
		told := drafted(true, func(d *referenceDraft) { d.footer = func([]int) string { return strings.Repeat("f", n) } })
		wantNoRead(t, told, "pre", fullRing(), false, api.ErrFile)
		page := drafted(false, func(d *referenceDraft) { d.chunks[0][0].plain = strings.Repeat("p", n) })
		wantRead(t, page, "pre", fullRing(), false, broken(foundOf(small(false), fullRing()), 0))
		sign := drafted(true, func(d *referenceDraft) {
			d.part = func(footer string) []referenceModule {
				return []referenceModule{{plain: footer}, {raw: rawSealed(strings.Repeat("s", n))}}
			}
		})
		wantNoRead(t, sign, "pre", fullRing(), false, api.ErrSeal)
		wantRead(t, sign, "pre", fullRing(), true, foundOf(small(true), fullRing()))
	}
}

// footed is the small job's file with its footer part turned, and the length
// behind it that of what it is then.
func footed(open bool, turn func(part string) string) string {
	file := drafted(open, func(*referenceDraft) {})
	end := len(file) - 4
	start := end - int(file[end]) - 256*int(file[end+1])
	part := turn(file[start:end])
	return file[:start] + part + referenceTwo(len(part)) + "CF"
}

// The footer part holds its modules, and nothing else.
func TestP8FooterPartsThatDoNotFit(t *testing.T) {
	for _, open := range []bool{false, true} {
		wantReadWritten(t, small(open), footed(open, func(part string) string { return part }), fullRing())
		for _, turn := range []func(part string) string{
			func(part string) string { return part + "x" },
			func(part string) string { return "x" + part },
			func(part string) string { return part[:len(part)-1] },
			func(part string) string { return part[1:] },
			func(part string) string { return part + part },
			func(part string) string { return touch(part, 0, part[0]+1) },
			func(part string) string { return touch(part, 0, part[0]-1) },
			func(part string) string { return touch(part, 1, 1) },
			func(part string) string { return touch(part, 1, 255) },
			func(part string) string { return "" },
			func(part string) string { return part[:1] },
			func(part string) string { return part[:2] },
			func(part string) string { return part[:5] },
		} {
			for _, trust := range []bool{false, true} {
				wantNoRead(t, footed(open, turn), "pre", nil, trust, api.ErrFile)
				wantNoRead(t, footed(open, turn), "pre", fullRing(), trust, api.ErrFile)
			}
		}
	}
	// Behind a footer that is told openly its sign takes up the rest.
	for at := range 3 {
		file := footed(true, func(part string) string { return touch(part, len(part)-8, byte(1+2*at)) })
		wantNoRead(t, file, "pre", nil, true, api.ErrFile)
	}
}

// wantNoFooter: with this footer, sealed or signed as it should be, the small
// job's file is none.
func wantNoFooter(t *testing.T, what string, turn func(footer string) string) {
	t.Helper()
	for _, open := range []bool{false, true} {
		file := drafted(open, func(d *referenceDraft) {
			footer := d.footer
			d.footer = func(places []int) string { return turn(footer(places)) }
		})
		for _, trust := range []bool{false, true} {
			if found, e := Read(file, "pre", fullRing(), trust); found != nil || e != api.ErrFile {
				t.Errorf("P8: %s: Read = %v, %d, want ErrFile", what, found, e)
			}
		}
		// A sealed one is not looked at without its key, one that is told is.
		if open {
			wantNoRead(t, file, "pre", nil, false, api.ErrFile)
		} else {
			wantNoRead(t, file, "pre", nil, false, api.ErrNoKey)
		}
	}
}

func smallFooter() (footer string) {
	drafted(true, func(d *referenceDraft) {
		told := d.footer
		d.footer = func(places []int) string {
			footer = told(places)
			return footer
		}
	})
	return footer
}

func TestP8FootersThatAreNone(t *testing.T) {
	footer := smallFooter()
	wantNoFooter(t, "nothing", func(string) string { return "" })
	wantNoFooter(t, "twice", func(footer string) string { return footer + footer })
	for n := range len(footer) {
		wantNoFooter(t, fmt.Sprint("the first bytes: ", n), func(footer string) string { return footer[:n] })
		wantNoFooter(t, fmt.Sprint("without the first bytes: ", n+1), func(footer string) string { return footer[n+1:] })
		wantNoFooter(t, fmt.Sprint("without the byte at ", n), func(footer string) string { return footer[:n] + footer[n+1:] })
	}
	for _, more := range []string{"\x00", "\x04", "x", "\x80", "\x9b\x01", strings.Repeat("\x00", 100)} {
		wantNoFooter(t, fmt.Sprintf("with %x behind", more), func(footer string) string { return footer + more })
	}
}

// numbersOf tells where in the small job's footer numbers stand, the last
// byte of each.
func numbersOf(footer string) []int {
	var at []int
	scan := &referenceScan{rest: footer}
	number := func() int {
		n := scan.number()
		at = append(at, len(footer)-len(scan.rest)-1)
		return n
	}
	for range 4 {
		number()
	}
	for range number() {
		scan.take(number())
		number()
		number()
	}
	for scan.rest != "" {
		number()
	}
	return at
}

func TestP8FootersNumbersInMoreBytes(t *testing.T) {
	footer := smallFooter()
	all := numbersOf(footer)
	if len(all) != 5+3*3+6 {
		t.Fatalf("the footer has %d numbers", len(all))
	}
	for _, at := range all {
		for _, more := range []string{"\x00", "\x80\x00", "\x80\x80\x80\x80\x80\x80\x80\x00"} {
			wantNoFooter(t, fmt.Sprint("the number till ", at, " in more bytes"), func(footer string) string {
				return footer[:at] + string([]byte{footer[at] | 0x80}) + more + footer[at+1:]
			})
		}
		// Nor are the numbers cut to fewer bits.
		for _, more := range []string{"\x02", "\x80\x02", "\x80\x80\x80\x80\x10", "\x80\x80\x80\x80\x80\x80\x80\x80\x01", "\x80\x80\x80\x80\x80\x80\x80\x80\x02", "\x80\x80\x80\x80\x80\x80\x80\x80\x80\x01"} {
			wantNoFooter(t, fmt.Sprint("the number till ", at, " greater"), func(footer string) string {
				return footer[:at] + string([]byte{footer[at] | 0x80}) + more + footer[at+1:]
			})
		}
	}
}

// bare is a file without rows, with this footer.
func bare(open bool, footer string) string {
	job := api.Job{Table: []api.Column{column("a", api.Ints, 0, nil)}, Plan: api.Plan{Group: 1, Page: 1, Foot: 3, Open: open}}
	d := draftOf(job, fullRing())
	d.footer = func([]int) string { return footer }
	return d.file()
}

func TestP8FootersOfNoRows(t *testing.T) {
	a := "\x01\x01a\x00\x00"
	column := func(names ...string) string {
		out := string([]byte{byte(len(names))})
		for _, name := range names {
			out += string(referenceText(nil, name)) + "\x00\x00"
		}
		return out
	}
	fine := []string{
		"\x00\x01\x01\x03" + a, "\x00\x3c\x3c\x03" + a, "\x00\x01\x01\x03\x01\x01z\x01\x09",
		"\x00\x01\x01\x03" + column("abcdefgh", "z", "aa", "ab", "b", "a"), "\x00\x01\x01\x03" + column("zzzzzzzz", "zzzzzzz"),
	}
	none := []string{
		"", "\x00", "\x00\x01\x01\x03", "\x00\x01\x01\x03\x00", "\x00\x01\x01\x03\x00" + a[1:], "\x00\x01\x01\x03" + a + "\x04", "\x00\x01\x01\x03" + a + "\x00",
		"\x00\x00\x01\x03" + a, "\x00\x3d\x01\x03" + a, "\x00\x01\x00\x03" + a, "\x00\x01\x3d\x03" + a, "\x00\x80\x01\x01\x03" + a,
		"\x00\x01\x01\x00" + a, "\x00\x01\x01\x02" + a, "\x00\x01\x01\x04" + a, "\x00\x01\x01\x0a" + a, "\x00\x01\x01\x83\x02" + a,
		"\x01\x01\x01\x03" + a, "\x01\x01\x01\x03" + a + "\x04", "\x3d\x01\x01\x03" + a, "\x3d\x3c\x01\x03" + a + "\x04\x04", "\xff\xff\xff\xff\xff\xff\xff\xff\xff\x01\x01\x01\x03" + a,
		"\x00\x01\x01\x03" + column("a", "b", "c", "d", "e", "f", "g"), "\x00\x01\x01\x03" + column("a", "a"), "\x00\x01\x01\x03" + column("a", "b", "c", "d", "e", "a"), "\x00\x01\x01\x03" + column("a", "b", "bb", "bb"),
		"\x00\x01\x01\x03" + column(""), "\x00\x01\x01\x03" + column("abcdefghi"), "\x00\x01\x01\x03" + column("a", ""),
		"\x00\x01\x01\x03\x01\x01a\x02\x00", "\x00\x01\x01\x03\x01\x01a\x00\x0a", "\x00\x01\x01\x03\x01\x01a\x80\x02\x00", "\x00\x01\x01\x03\x01\x01a\x00\x81\x02",
		"\x00\x01\x01\x03\x02\x01a\x00\x00", "\x00\x01\x01\x03\x01\x02a\x00\x00", "\x00\x01\x01\x03\x01\x7fa\x00\x00", "\x00\x01\x01\x03\x01\xff\xff\xff\xff\xff\xff\xff\xff\xff\x01a\x00\x00",
	}
	for sign := range 256 {
		footer := "\x00\x01\x01\x03" + column("a"+string([]byte{byte(sign)}))
		if sign >= 'a' && sign <= 'z' {
			fine = append(fine, footer)
		} else {
			none = append(none, footer)
		}
	}
	for _, open := range []bool{false, true} {
		for _, trust := range []bool{false, true} {
			for _, footer := range fine {
				found, e := wantReadReference(t, bare(open, footer), "", fullRing(), trust)
				if e != api.OK || len(found) != int(footer[4]) {
					t.Errorf("P8: with the footer %x Read = %v, %d", footer, found, e)
				}
			}
			for _, footer := range none {
				wantNoRead(t, bare(open, footer), "", fullRing(), trust, api.ErrFile)
			}
		}
	}
	// Without rows nothing stands ahead of the footer part.
	for _, open := range []bool{false, true} {
		d := draftOf(api.Job{Table: small(open).Table, Plan: small(open).Plan}, fullRing())
		d.footer = func([]int) string { return fine[0] }
		wantNoRead(t, d.file(), "", fullRing(), true, api.ErrFile)
	}
}

// Files that are laid out like others, but of more rows or columns than a
// table has, or of greater groups or pages.
func TestP8FilesOfNoTable(t *testing.T) {
	for _, c := range []struct {
		rows, columns, group, page int
		fine                       bool
	}{
		{60, 6, 60, 60, true}, {60, 1, 1, 1, true}, {60, 1, 59, 2, true}, {1, 6, 60, 1, true},
		{61, 1, 60, 60, false}, {61, 1, 1, 1, false}, {62, 2, 7, 60, false}, {127, 1, 60, 60, false}, {128, 1, 60, 60, false}, {300, 1, 60, 60, false},
		{60, 7, 60, 60, false}, {1, 8, 1, 1, false}, {1, 26, 1, 1, false},
		{60, 1, 61, 60, false}, {60, 1, 128, 60, false}, {60, 1, 60, 61, false}, {60, 1, 60, 128, false},
	} {
		for _, open := range []bool{false, true} {
			job := api.Job{Plan: api.Plan{Group: c.group, Page: c.page, Foot: 3, Open: open}}
			for i := range c.columns {
				job.Table = append(job.Table, column(string(rune('a'+i)), i%2, i%3, make([]api.Cell, c.rows)))
			}
			file := draftOf(job, fullRing()).file()
			if c.fine {
				wantReadWritten(t, job, file, fullRing())
				continue
			}
			wantNoRead(t, file, "", fullRing(), false, api.ErrFile)
			wantNoRead(t, file, "", fullRing(), true, api.ErrFile)
		}
	}
}

func TestP8PlacesOfChunks(t *testing.T) {
	for chunk := range 6 {
		for _, by := range []int{-4, -1, 1, 2, 100, 1 << 16, 1 << 32} {
			for _, open := range []bool{false, true} {
				file := drafted(open, func(d *referenceDraft) {
					footer := d.footer
					d.footer = func(places []int) string {
						places[chunk] += by
						return footer(places)
					}
				})
				wantNoRead(t, file, "pre", fullRing(), true, api.ErrFile)
				wantNoRead(t, file, "pre", fullRing(), false, api.ErrFile)
			}
		}
		for other := range chunk {
			wantNoFooterPlaces(t, func(places []int) { places[chunk], places[other] = places[other], places[chunk] })
			wantNoFooterPlaces(t, func(places []int) { places[chunk] = places[other] })
			wantNoFooterPlaces(t, func(places []int) { places[other] = places[chunk] })
		}
	}
	wantNoFooterPlaces(t, func(places []int) { clear(places) })
}

func wantNoFooterPlaces(t *testing.T, turn func(places []int)) {
	t.Helper()
	file := drafted(true, func(d *referenceDraft) {
		footer := d.footer
		d.footer = func(places []int) string {
			turn(places)
			return footer(places)
		}
	})
	wantNoRead(t, file, "pre", fullRing(), true, api.ErrFile)
}

// The footer says where the chunks begin as they do, but not all between
// these places, or ahead of the footer part, are their modules.
func TestP8ModulesThatDoNotFollowEachOther(t *testing.T) {
	for chunk := range 6 {
		for _, turn := range []func(modules []referenceModule) []referenceModule{
			func(modules []referenceModule) []referenceModule { return modules[1:] },
			func(modules []referenceModule) []referenceModule { return modules[:len(modules)-1] },
			func(modules []referenceModule) []referenceModule { return nil },
			func(modules []referenceModule) []referenceModule { return append(modules, modules[0]) },
			func(modules []referenceModule) []referenceModule {
				return append(modules, referenceModule{raw: "\x00\x00"})
			},
			func(modules []referenceModule) []referenceModule { return append(modules, referenceModule{raw: "x"}) },
			func(modules []referenceModule) []referenceModule {
				return append([]referenceModule{{raw: "x"}}, modules...)
			},
			func(modules []referenceModule) []referenceModule { return append(modules, modules...) },
		} {
			for _, open := range []bool{false, true} {
				file := drafted(open, func(d *referenceDraft) { d.chunks[chunk] = turn(slices.Clone(d.chunks[chunk])) })
				for _, trust := range []bool{false, true} {
					wantNoRead(t, file, "pre", fullRing(), trust, api.ErrFile)
				}
			}
		}
	}
}

// A module that is longer or shorter than it says leads astray, the last one
// into the footer part.
func TestP8LengthsOfModules(t *testing.T) {
	for chunk := range 6 {
		for m := range 2 {
			for _, by := range []int{-1, 1, 3, 255, 256, 65535} {
				for _, open := range []bool{false, true} {
					file := drafted(open, func(d *referenceDraft) {
						at := &d.chunks[chunk][len(d.chunks[chunk])-1-m]
						laid := d.lay(*at)
						at.raw = referenceTwo(int(laid[0])+256*int(laid[1])+by) + laid[2:]
					})
					wantNoRead(t, file, "pre", fullRing(), false, api.ErrFile)
					wantNoRead(t, file, "pre", fullRing(), true, api.ErrFile)
				}
			}
		}
	}
}

// In the last chunk of the open column the meta is two bytes 0, and takes the
// place of its own length if the page reaches over that: modules follow each
// other up to the end, and just what is in them is wrong.
func TestP8P9AModuleOverTheLengthOfTheNext(t *testing.T) {
	for _, open := range []bool{false, true} {
		file := drafted(open, func(d *referenceDraft) {
			page := &d.chunks[4][0]
			page.raw = referenceTwo(len(page.plain)+2) + page.plain
		})
		wantRead(t, file, "pre", fullRing(), false, broken(foundOf(small(open), fullRing()), 1))
	}
}

// A column that is told to be open is not read as a sealed one, nor a sealed
// one as open.
func TestP8OpenOrSealedAsTheFooterSays(t *testing.T) {
	for c := range 3 {
		for _, open := range []bool{false, true} {
			job := small(open)
			told := small(open)
			told.Table[c].Key = 4 - 4*min(1, job.Table[c].Key)
			d := draftOf(job, fullRing())
			d.footer = func(places []int) string { return referenceFooter(told, places) }
			wantNoRead(t, d.file(), "pre", fullRing(), false, api.ErrFile)
		}
	}
}
