package coffer

import (
	"fmt"
	"math/rand"
	"slices"
	"strings"
	"testing"

	"coffer/api"
)

func sameFound(a, b []api.Found) bool {
	return slices.EqualFunc(a, b, func(a, b api.Found) bool {
		return a.Name == b.Name && a.Kind == b.Kind && a.Key == b.Key && a.State == b.State && slices.Equal(a.Cells, b.Cells)
	})
}

func wantRead(t *testing.T, file, prefix string, ring []api.Key, trust bool, want []api.Found) {
	t.Helper()
	if found, e := Read(file, prefix, ring, trust); e != api.OK || !sameFound(found, want) {
		t.Errorf("P8, P9: Read(%.300x, %q, %v, %t) = %v, %d, want %v", file, prefix, ring, trust, found, e, want)
	}
}

func wantNoRead(t *testing.T, file, prefix string, ring []api.Key, trust bool, want api.Errno) {
	t.Helper()
	if found, e := Read(file, prefix, ring, trust); found != nil || e != want {
		t.Errorf("P8: Read(%.300x, %.30q, %.100s, %t) = %v, %d, want error %d", file, prefix, fmt.Sprint(ring), trust, found, e, want)
	}
}

// wantReadReference: Read answers what the reference does, and this is told.
func wantReadReference(t *testing.T, file, prefix string, ring []api.Key, trust bool) ([]api.Found, api.Errno) {
	t.Helper()
	found, e := referenceRead(file, prefix, ring, trust)
	if e == api.OK {
		wantRead(t, file, prefix, ring, trust, found)
	} else {
		wantNoRead(t, file, prefix, ring, trust, e)
	}
	return found, e
}

// foundOf is what is read of the job's table with the ring.
func foundOf(job api.Job, ring []api.Key) []api.Found {
	var all []api.Found
	for _, column := range job.Table {
		found := api.Found{Name: column.Name, Kind: column.Kind, Key: column.Key, Cells: column.Cells}
		if column.Key != 0 && !hasKey(ring, column.Key) {
			found.State, found.Cells = api.Locked, nil
		}
		all = append(all, found)
	}
	return all
}

// broken is what was found, but for these columns, which are Broken.
func broken(found []api.Found, columns ...int) []api.Found {
	found = slices.Clone(found)
	for _, c := range columns {
		found[c].State, found[c].Cells = api.Broken, nil
	}
	return found
}

func hasKey(ring []api.Key, number int) bool {
	return slices.ContainsFunc(ring, func(key api.Key) bool { return key.Number == number })
}

// wantReadWritten: the job's file is read with its prefix, as far as the ring goes.
func wantReadWritten(t *testing.T, job api.Job, file string, ring []api.Key) {
	t.Helper()
	for _, trust := range []bool{false, true} {
		if hasKey(ring, job.Plan.Foot) || job.Plan.Open && trust {
			wantRead(t, file, job.Prefix, ring, trust, foundOf(job, ring))
		} else {
			wantNoRead(t, file, job.Prefix, ring, trust, api.ErrNoKey)
		}
	}
}

func TestP8P9KnownFiles(t *testing.T) {
	for _, c := range knownFiles {
		t.Run(c.name, func(t *testing.T) {
			file := unhex(t, c.file)
			wantReadWritten(t, c.job, file, fullRing())
			wantReadWritten(t, c.job, file, nil)
			for number := 1; number <= 9; number++ {
				wantReadWritten(t, c.job, file, without(number))
				wantReadWritten(t, c.job, file, fullRing()[number-1:number])
			}
		})
	}
}

// What is read of a small file, told in full.
func TestP8P9ASmallFile(t *testing.T) {
	file := unhex(t, knownFiles[5].file)
	ring := []api.Key{{Number: 9, Secret: "secret-9"}, {Number: 3, Secret: "secret-3"}}
	wantRead(t, file, "pre", ring, false, []api.Found{
		{Name: "id", Kind: 0, Key: 1, State: 1},
		{Name: "who", Kind: 1, Key: 0, State: 0, Cells: []api.Cell{{Text: "x"}, {Null: true}, {Text: "yz"}}},
		{Name: "what", Kind: 1, Key: 9, State: 0, Cells: []api.Cell{{}, {Text: "\xff"}, {Text: "q"}}},
	})
	wantRead(t, file, "prf", ring, true, []api.Found{
		{Name: "id", Kind: 0, Key: 1, State: 1},
		{Name: "who", Kind: 1, Key: 0, State: 0, Cells: []api.Cell{{Text: "x"}, {Null: true}, {Text: "yz"}}},
		{Name: "what", Kind: 1, Key: 9, State: 2},
	})
}

func TestP8P9EveryRing(t *testing.T) {
	job := api.Job{Table: []api.Column{
		column("a", api.Ints, 1, ints(1, 2, nil)), column("b", api.Texts, 2, texts("x", nil, "z")), column("c", api.Ints, 0, ints(7, 7, 7)),
		column("d", api.Texts, 3, texts("", "", "")), column("e", api.Ints, 2, ints(nil, nil, nil)), column("f", api.Texts, 0, texts(nil, "q", "q")),
	}, Prefix: "here", Draw: 99}
	for _, plan := range []api.Plan{{Group: 2, Page: 1, Foot: 3}, {Group: 60, Page: 60, Foot: 4}, {Group: 1, Page: 2, Foot: 1}} {
		for _, job.Plan = range []api.Plan{plan, {Group: plan.Group, Page: plan.Page, Foot: plan.Foot, Open: true}} {
			file, _ := mustWrite(t, job, fullRing())
			for some := range 1 << 4 {
				var ring []api.Key
				for i := range 4 {
					if some&(1<<i) != 0 {
						ring = append(ring, fullRing()[i])
					}
				}
				wantReadWritten(t, job, file, ring)
				slices.Reverse(ring)
				wantReadWritten(t, job, file, append(ring, fullRing()[4:]...))
			}
		}
	}
}

func TestP8P9GreatFiles(t *testing.T) {
	for _, table := range [][]api.Column{mixedTable(), numberTable(), openTable()} {
		for _, plan := range []api.Plan{{Group: 1, Page: 1, Foot: 1}, {Group: 7, Page: 3, Foot: 9, Open: true}, {Group: 60, Page: 60, Foot: 9}, {Group: 60, Page: 1, Foot: 6, Open: true}, {Group: 59, Page: 58, Foot: 2}} {
			job := api.Job{Table: table, Plan: plan, Prefix: "a prefix of 20 bytes", Draw: 65535}
			file, _ := mustWrite(t, job, fullRing())
			wantReadWritten(t, job, file, fullRing())
			wantReadWritten(t, job, file, without(2, 4))
		}
	}
}

func TestP8P9AllGroupsAndPages(t *testing.T) {
	rows := counted(60, func(i int) api.Cell { return api.Cell{Int: i * i} })
	names := counted(60, func(i int) api.Cell { return api.Cell{Text: strings.Repeat("n", i%5)} })
	for group := 1; group <= 60; group++ {
		for page := 1; page <= 60; page++ {
			n := []int{60, 59, group, min(60, group+page), (group*page + 1) % 61}[(group+page)%5]
			job := api.Job{
				Table: []api.Column{column("i", api.Ints, group%3, rows[:n]), column("t", api.Texts, page%2, names[:n])},
				Plan:  api.Plan{Group: group, Page: page, Foot: 1 + page%9, Open: group%2 == 0},
			}
			file, _ := mustWrite(t, job, fullRing())
			wantRead(t, file, "", fullRing(), page%2 == 0, foundOf(job, fullRing()))
		}
	}
}

func diceRing(dice *rand.Rand) []api.Key {
	ring := fullRing()
	dice.Shuffle(len(ring), func(i, k int) { ring[i], ring[k] = ring[k], ring[i] })
	return ring[:9-dice.Intn(1+dice.Intn(10))]
}

func TestP8P9ManyJobs(t *testing.T) {
	dice := rand.New(rand.NewSource(4))
	for range 1000 {
		job, ring := diceJob(dice), diceRing(dice)
		file, _ := mustWrite(t, job, fullRing())
		wantReadWritten(t, job, file, ring)
		wantReadReference(t, file, job.Prefix, ring, dice.Intn(2) == 0)
		wantReadReference(t, file, steps(dice.Intn(21), 1), ring, dice.Intn(2) == 0)
	}
}

// small is a job with two groups of two pages, and a last page of one row.
func small(open bool) api.Job {
	return api.Job{
		Table: []api.Column{
			column("id", api.Ints, 1, ints(5, 6, nil, 7, 8)), column("who", api.Texts, 0, texts("x", nil, "yz", "", "y")), column("what", api.Texts, 2, texts("a", "b", "c", "d", "e")),
		},
		Plan: api.Plan{Group: 3, Page: 2, Foot: 3, Open: open}, Prefix: "pre", Draw: 258,
	}
}

func TestP8AnotherPrefix(t *testing.T) {
	for _, open := range []bool{false, true} {
		for _, written := range []string{"", "p", "pre", strings.Repeat("p", 20)} {
			job := small(open)
			job.Prefix = written
			file, _ := mustWrite(t, job, fullRing())
			for _, prefix := range []string{"", "p", "q", "pre", "prf", "pre\x00", strings.Repeat("p", 19), strings.Repeat("p", 20)} {
				if prefix == written {
					wantReadWritten(t, job, file, fullRing())
					continue
				}
				wantNoRead(t, file, prefix, fullRing(), false, api.ErrSeal)
				wantNoRead(t, file, prefix, without(3), false, api.ErrNoKey)
				if !open {
					wantNoRead(t, file, prefix, fullRing(), true, api.ErrSeal)
					continue
				}
				wantRead(t, file, prefix, fullRing(), true, broken(foundOf(job, fullRing()), 0, 2))
				wantRead(t, file, prefix, without(1, 3), true, broken(foundOf(job, without(1)), 2))
			}
		}
	}
	// Without rows nothing of the columns is bound to the prefix.
	empty := api.Job{Table: []api.Column{column("a", api.Ints, 1, nil)}, Plan: api.Plan{Group: 1, Page: 1, Foot: 3, Open: true}}
	file, _ := mustWrite(t, empty, fullRing())
	wantRead(t, file, "else", fullRing(), true, foundOf(empty, fullRing()))
	wantNoRead(t, file, "else", fullRing(), false, api.ErrSeal)
}

func TestP8LongPrefixes(t *testing.T) {
	for _, open := range []bool{false, true} {
		for _, n := range []int{0, 1, 19, 20} {
			job := small(open)
			job.Prefix = steps(n, 77)
			file, _ := mustWrite(t, job, fullRing())
			wantReadWritten(t, job, file, fullRing())
		}
		file, _ := mustWrite(t, small(open), fullRing())
		for _, n := range []int{21, 22, 256, 276, 65536, 9000000} {
			wantNoRead(t, file, steps(n, 77), fullRing(), false, api.ErrPlan)
			wantNoRead(t, file, steps(n, 77), fullRing(), true, api.ErrPlan)
		}
		// Its length is counted in bytes, not in letters.
		wantNoRead(t, file, strings.Repeat("é", 10), fullRing(), false, api.ErrSeal)
		wantNoRead(t, file, strings.Repeat("é", 11), fullRing(), false, api.ErrPlan)
	}
}

func TestP8Rings(t *testing.T) {
	for _, open := range []bool{false, true} {
		job := small(open)
		file, _ := mustWrite(t, job, fullRing())
		for at := range 9 {
			for _, number := range []int{0, -1, 10, 256 + 1, 1<<32 + 1, most, least} {
				ring := fullRing()
				ring[at].Number = number
				wantNoRead(t, file, "pre", ring, true, api.ErrKey)
			}
			for _, n := range []int{0, 7, 9, 256 + 8, 9000000} {
				ring := fullRing()
				ring[at].Secret = steps(n, 1)
				wantNoRead(t, file, "pre", ring, true, api.ErrKey)
			}
			wantNoRead(t, file, "pre", append(fullRing(), fullRing()[at]), true, api.ErrKey)
		}
		wantNoRead(t, file, "pre", make([]api.Key, 3000000), false, api.ErrKey)
		// Keys of other secrets are as good as none, but for what they tell.
		other := func(number int) []api.Key {
			return append(without(number), api.Key{Number: number, Secret: "another."})
		}
		wantRead(t, file, "pre", other(1), false, broken(foundOf(job, fullRing()), 0))
		wantRead(t, file, "pre", other(2), true, broken(foundOf(job, fullRing()), 2))
		wantRead(t, file, "pre", other(4), false, foundOf(job, fullRing()))
		wantNoRead(t, file, "pre", other(3), false, api.ErrSeal)
		if open {
			wantRead(t, file, "pre", other(3), true, foundOf(job, fullRing()))
		} else {
			wantNoRead(t, file, "pre", other(3), true, api.ErrSeal)
		}
	}
}

// drafted is the small job's file with something about its parts turned.
func drafted(open bool, turn func(d *referenceDraft)) string {
	d := draftOf(small(open), fullRing())
	turn(d)
	return d.file()
}

// The nonces are what the file says, whatever they are.
func TestP8AnyNonces(t *testing.T) {
	for _, open := range []bool{false, true} {
		for _, draw := range []int{0, 7, 65535} {
			file := drafted(open, func(d *referenceDraft) { d.draw = draw })
			wantReadWritten(t, small(open), file, fullRing())
			file = drafted(open, func(d *referenceDraft) {
				for _, chunk := range d.chunks {
					for i, m := range chunk {
						if m.key != 0 {
							extra := "\x03pre" + m.place
							body := referenceBody(fmt.Sprintf("secret-%d", m.key), "same", extra, m.plain)
							chunk[i].raw = referenceTwo(len(body)) + "same" + body
						}
					}
				}
			})
			wantReadWritten(t, small(open), file, fullRing())
		}
	}
}

// Of several errors the one is answered that P8 names first.
func TestP1ReadFirstErrorNamed(t *testing.T) {
	unsealed := func(d *referenceDraft) {
		part := d.part
		d.part = func(footer string) []referenceModule {
			modules := part(footer)
			modules[len(modules)-1].key = 4
			return modules
		}
	}
	noFooter := func(d *referenceDraft) { d.footer = func([]int) string { return "no footer" } }
	noChunks := func(d *referenceDraft) { d.chunks[3] = nil }
	noPage := func(d *referenceDraft) { d.chunks[0][0].plain = "no page" }
	for _, open := range []bool{false, true} {
		for _, c := range []struct {
			form, opens, stands, page bool
		}{
			{true, true, true, true}, {true, true, true, false}, {true, true, false, true}, {true, false, true, true}, {true, false, false, true}, {true, false, false, false},
			{false, true, true, true}, {false, false, false, false},
		} {
			for _, astray := range []func(d *referenceDraft){noFooter, noChunks} {
				file := drafted(open, func(d *referenceDraft) {
					if !c.opens {
						unsealed(d)
					}
					if !c.stands {
						astray(d)
					}
					if !c.page {
						noPage(d)
					}
				})
				if !c.form {
					file = file[:len(file)-1]
				}
				for _, prefix := range []string{"pre", strings.Repeat("p", 21)} {
					for _, ring := range [][]api.Key{fullRing(), without(1), without(3), nil, append(without(3), api.Key{}), {{Number: 3, Secret: "secret-3"}, {Number: 3, Secret: "secret-3"}}} {
						for _, trust := range []bool{false, true} {
							want := foundOf(small(open), ring)
							if !c.page && want[0].State == api.Got {
								want = broken(want, 0)
							}
							_, isRing := referenceRing(ring)
							switch {
							case len(prefix) > 20:
								wantNoRead(t, file, prefix, ring, trust, api.ErrPlan)
							case !isRing:
								wantNoRead(t, file, prefix, ring, trust, api.ErrKey)
							case !c.form:
								wantNoRead(t, file, prefix, ring, trust, api.ErrFile)
							case open && !c.stands:
								wantNoRead(t, file, prefix, ring, trust, api.ErrFile)
							case !hasKey(ring, 3) && !(open && trust):
								wantNoRead(t, file, prefix, ring, trust, api.ErrNoKey)
							case !c.opens && !(open && trust):
								wantNoRead(t, file, prefix, ring, trust, api.ErrSeal)
							case !c.stands:
								wantNoRead(t, file, prefix, ring, trust, api.ErrFile)
							default:
								wantRead(t, file, prefix, ring, trust, want)
							}
						}
					}
				}
			}
		}
	}
	wantNoRead(t, "", strings.Repeat("p", 21), []api.Key{{}}, false, api.ErrPlan)
	wantNoRead(t, "", "", []api.Key{{}}, false, api.ErrKey)
	wantNoRead(t, "", "", nil, false, api.ErrFile)
}

func TestP1ReadEndsAtAnyBytes(t *testing.T) {
	dice := rand.New(rand.NewSource(7))
	for range 20000 {
		file := make([]byte, dice.Intn(80))
		for i := range file {
			file[i] = byte(dice.Intn(1 + dice.Intn(256)))
		}
		wantReadReference(t, string(file), "", fullRing(), true)
		part := referenceTwo(len(file)) + string(file)
		wantReadReference(t, "CFE\x03"+part+referenceTwo(len(part))+"CF", "", fullRing(), true)
		part += "\x02\x00noncxx"
		wantReadReference(t, "CFO\x03"+part+referenceTwo(len(part))+"CF", "", fullRing(), dice.Intn(2) == 0)
	}
	for _, file := range []string{strings.Repeat("CF", 32500), strings.Repeat("CFE\x03", 16249) + "\x08\x00CF", strings.Repeat("\xff", 65000), strings.Repeat("\x00", 65000), "CFO\x01" + strings.Repeat("\x00", 64990) + "\xff\xfdCF", steps(65000, 1), steps(9000000, 7)} {
		for _, ring := range [][]api.Key{nil, fullRing()} {
			wantNoRead(t, file, "", ring, true, api.ErrFile)
		}
	}
}

func TestP2ReadLeavesItsRing(t *testing.T) {
	behind := api.Key{Number: 1, Secret: "spare"}
	for _, c := range knownFiles {
		file := unhex(t, c.file)
		ring, before := roomy(fullRing(), behind), roomy(fullRing(), behind)
		wantReadWritten(t, c.job, file, ring)
		wantReadWritten(t, c.job, file, ring[:0])
		wantNoRead(t, file, c.job.Prefix, ring[:len(ring)+1], true, api.ErrKey)
		if !slices.Equal(ring[:cap(ring)], before[:cap(before)]) {
			t.Errorf("P2: %s: Read wrote into its ring", c.name)
		}
	}
}

// Texts whose bytes are written over behind the call show what it has kept.
func TestP2ReadKeepsNothingOfItsTexts(t *testing.T) {
	for _, open := range []bool{false, true} {
		job := small(open)
		written, _ := mustWrite(t, job, fullRing())
		fileRoom, file := aliased(written)
		prefixRoom, prefix := aliased("pre")
		var ring []api.Key
		rooms := [][]byte{fileRoom, prefixRoom}
		for _, key := range fullRing() {
			room, secret := aliased(key.Secret)
			rooms = append(rooms, room)
			ring = append(ring, api.Key{Number: key.Number, Secret: secret})
		}
		var before []string
		for _, room := range rooms {
			before = append(before, string(room[:cap(room)]))
		}
		for _, trust := range []bool{false, true} {
			found, e := Read(file, prefix, ring, trust)
			for i, room := range rooms {
				if string(room[:cap(room)]) != before[i] {
					t.Errorf("P2: Read wrote into %q", before[i])
				}
				clear(room)
			}
			if e != api.OK || !sameFound(found, foundOf(job, fullRing())) {
				t.Errorf("P2: the answer lives in the file or the ring: %v, %d", found, e)
			}
			for i, room := range rooms {
				copy(room, before[i])
			}
		}
	}
}

func TestP2ReadAnswersNewMemory(t *testing.T) {
	stain := api.Cell{Int: 77, Text: "the caller's"}
	for _, c := range knownFiles {
		file := unhex(t, c.file)
		want := foundOf(c.job, fullRing())
		first, _ := Read(file, c.job.Prefix, fullRing(), false)
		second, _ := Read(file, c.job.Prefix, fullRing(), false)
		for i := range first {
			// Each list by itself, so that a list that shares memory shows it.
			room := first[i].Cells[:cap(first[i].Cells)]
			for k := range room {
				room[k] = stain
			}
			if !sameFound(first[i+1:], want[i+1:]) {
				t.Errorf("P2: %s: two lists of one answer share memory", c.name)
			}
		}
		if !sameFound(second, want) {
			t.Errorf("P2: %s: two answers share memory", c.name)
		}
		wantRead(t, file, c.job.Prefix, fullRing(), false, want)
		for i := range first {
			if slices.ContainsFunc(first[i].Cells[:cap(first[i].Cells)], func(cell api.Cell) bool { return cell != stain }) {
				t.Errorf("P2: %s: a later call changed an earlier answer", c.name)
			}
		}
		room := first[:cap(first)]
		for i := range room {
			room[i] = api.Found{Name: "the caller's"}
		}
		if !sameFound(second, want) {
			t.Errorf("P2: %s: two answers share their columns", c.name)
		}
		wantRead(t, file, c.job.Prefix, fullRing(), false, want)
	}
}

func TestP2ReadHangsOnItsArgumentsAlone(t *testing.T) {
	for range 3 {
		for _, c := range knownFiles {
			file := unhex(t, c.file)
			wantReadWritten(t, c.job, file, fullRing())
			wantNoRead(t, file[1:], c.job.Prefix, fullRing(), true, api.ErrFile)
			wantReadWritten(t, c.job, file, without(1, 9))
			wantReadWritten(t, c.job, file, nil)
		}
	}
}

func FuzzP8P9ReadIsTheReferences(f *testing.F) {
	for _, c := range knownFiles {
		f.Add(unhex(f, c.file), c.job.Prefix, 0, true)
		f.Add(unhex(f, c.file), "else", c.job.Plan.Foot, false)
	}
	f.Fuzz(func(t *testing.T, file, prefix string, gone int, trust bool) {
		wantReadReference(t, file, prefix, without(gone), trust)
	})
}

// What is sealed is what the fuzzer has found, so that it comes further in.
func FuzzP8P9ReadDraftsLikeTheReference(f *testing.F) {
	f.Add("\x02\x02\x01\x0a\x02", "\x00\x01\x0a\x0c", "\x02\x3c\x3c\x03\x01\x02id\x00\x01\x04", 1, true)
	f.Add("\x01\x01\x00\x01x", "\x00\x00", "\x01\x01\x01\x03\x01\x03who\x01\x00\x04", 0, false)
	f.Fuzz(func(t *testing.T, page, meta, footer string, key int, open bool) {
		if len(page) > 60000 || len(meta) > 60000 || len(footer) > 60000 || key < 0 || key > 9 {
			return
		}
		job := api.Job{Table: []api.Column{column("a", api.Ints, key, ints(1))}, Plan: api.Plan{Group: 1, Page: 1, Foot: 3, Open: open}}
		d := draftOf(job, fullRing())
		d.chunks[0][0].plain, d.chunks[0][1].plain = page, meta
		d.footer = func([]int) string { return footer }
		wantReadReference(t, d.file(), "", fullRing(), false)
	})
}
