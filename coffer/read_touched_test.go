package coffer

import (
	"fmt"
	"math/rand"
	"slices"
	"strings"
	"testing"

	"coffer/api"
)

// sealedJob has sealed columns alone, three of them with one key.
func sealedJob(open bool) api.Job {
	return api.Job{
		Table: []api.Column{
			column("a", api.Ints, 1, ints(1, 2, 3)), column("b", api.Ints, 1, ints(4, 5, 6)), column("c", api.Ints, 1, ints(1, 2, 3)), column("d", api.Texts, 2, texts("x", nil, "z")),
		},
		Plan: api.Plan{Group: 2, Page: 1, Foot: 3, Open: open}, Prefix: "pre", Draw: 258,
	}
}

// wantGivenAway: what was read of a touched file with all keys is an error,
// or columns of which one is Broken, and the others are the job's.
func wantGivenAway(t *testing.T, job api.Job, file string) {
	t.Helper()
	found, e := wantReadReference(t, file, job.Prefix, fullRing(), false)
	if e != api.OK {
		return
	}
	want := foundOf(job, fullRing())
	given := false
	for c := range found {
		if found[c].State == api.Broken {
			given = true
			want = broken(want, c)
		}
	}
	if !given || !sameFound(found, want) {
		t.Errorf("P9: of the touched file %x is read %v", file, found)
	}
}

func TestP9EveryByteTouched(t *testing.T) {
	for _, open := range []bool{false, true} {
		job := sealedJob(open)
		file, _ := mustWrite(t, job, fullRing())
		wantReadWritten(t, job, file, fullRing())
		for at := range len(file) {
			for _, by := range []byte{1, 2, 4, 8, 16, 32, 64, 128, 255, 0x55} {
				touched := touch(file, at, file[at]^by)
				wantGivenAway(t, job, touched)
				wantReadReference(t, touched, job.Prefix, fullRing(), true)
				wantReadReference(t, touched, job.Prefix, without(1), true)
			}
		}
	}
}

func TestP9AByteMoreOrLess(t *testing.T) {
	for _, open := range []bool{false, true} {
		job := sealedJob(open)
		file, _ := mustWrite(t, job, fullRing())
		for at := range len(file) {
			less := file[:at] + file[at+1:]
			wantGivenAway(t, job, less)
			wantReadReference(t, less, job.Prefix, fullRing(), true)
			wantNoRead(t, file[:at], job.Prefix, fullRing(), true, api.ErrFile)
			if at > 0 {
				wantNoRead(t, file[at:], job.Prefix, fullRing(), true, api.ErrFile)
			}
		}
		for at := range len(file) + 1 {
			for _, b := range []byte{0, 1, 'C', 'F', 255, file[max(0, at-1)]} {
				more := file[:at] + string([]byte{b}) + file[at:]
				if _, e := wantReadReference(t, more, job.Prefix, fullRing(), true); e == api.OK {
					t.Errorf("P8: with a byte %d more at %d the file is read", b, at)
				}
			}
		}
		wantNoRead(t, file+file, job.Prefix, fullRing(), true, api.ErrFile)
	}
}

// Many bytes touched at once, of files that have open columns too.
func TestP8P9ManyBytesTouched(t *testing.T) {
	dice := rand.New(rand.NewSource(5))
	for range 300 {
		job := diceJob(dice)
		file, _ := mustWrite(t, job, fullRing())
		for range 20 {
			touched := []byte(file)
			for range 1 + dice.Intn(3) {
				touched[dice.Intn(len(touched))] ^= byte(1 << dice.Intn(8))
			}
			wantReadReference(t, string(touched), job.Prefix, diceRing(dice), dice.Intn(2) == 0)
		}
	}
}

// spot: where a module stands: the chunk, and its place in it.
type spot struct{ chunk, module int }

func spotsOf(d *referenceDraft) []spot {
	var spots []spot
	for i, chunk := range d.chunks {
		for k := range chunk {
			spots = append(spots, spot{i, k})
		}
	}
	return spots
}

// laidOut is the draft of a job with all modules as they stand in its file:
// they stay so, wherever they are put.
func laidOut(job api.Job) *referenceDraft {
	d := draftOf(job, fullRing())
	for _, chunk := range d.chunks {
		for i := range chunk {
			chunk[i].raw = d.lay(chunk[i])
		}
	}
	return d
}

func (d *referenceDraft) at(s spot) *referenceModule {
	return &d.chunks[s.chunk][s.module]
}

func TestP9ModulesOfOtherPlaces(t *testing.T) {
	for _, open := range []bool{false, true} {
		job := sealedJob(open)
		all := foundOf(job, fullRing())
		wantRead(t, laidOut(job).file(), "pre", fullRing(), false, all)
		spots := spotsOf(laidOut(job))
		if len(spots) != 4*(3+2) {
			t.Fatalf("the job has %d modules", len(spots))
		}
		for _, to := range spots {
			for _, from := range spots {
				if from == to {
					continue
				}
				copied, swapped := laidOut(job), laidOut(job)
				copied.at(to).raw = copied.at(from).raw
				wantRead(t, copied.file(), "pre", fullRing(), false, broken(all, to.chunk%4))
				swapped.at(to).raw, swapped.at(from).raw = swapped.at(from).raw, swapped.at(to).raw
				wantRead(t, swapped.file(), "pre", fullRing(), false, broken(all, to.chunk%4, from.chunk%4))
			}
		}
		// Whole chunks are bound to their columns and groups too, be their cells the same.
		for _, pair := range [][2]int{{0, 2}, {4, 6}, {0, 1}} {
			d := laidOut(job)
			d.chunks[pair[0]], d.chunks[pair[1]] = d.chunks[pair[1]], d.chunks[pair[0]]
			wantRead(t, d.file(), "pre", fullRing(), false, broken(all, pair[0]%4, pair[1]%4))
		}
	}
	// Two groups of the same cells.
	job := api.Job{Table: []api.Column{column("a", api.Ints, 1, ints(7, 7)), column("o", api.Ints, 0, ints(7, 7))}, Plan: api.Plan{Group: 1, Page: 1, Foot: 3}, Prefix: "pre"}
	d := laidOut(job)
	d.chunks[0], d.chunks[2] = d.chunks[2], d.chunks[0]
	d.chunks[1], d.chunks[3] = d.chunks[3], d.chunks[1]
	wantRead(t, d.file(), "pre", fullRing(), false, broken(foundOf(job, fullRing()), 0))
}

func TestP9ModulesOfOtherFiles(t *testing.T) {
	for _, open := range []bool{false, true} {
		job, other := sealedJob(open), sealedJob(open)
		all := foundOf(job, fullRing())
		other.Prefix = "prf"
		for _, at := range spotsOf(laidOut(job)) {
			d := laidOut(job)
			d.at(at).raw = laidOut(other).at(at).raw
			wantRead(t, d.file(), "pre", fullRing(), false, broken(all, at.chunk%4))
		}
		// With the same prefix a module may be brought over, and fits if the
		// chunk's others do.
		other.Prefix, other.Draw = "pre", 7
		other.Table = slices.Clone(other.Table)
		other.Table[0].Cells = ints(1, 9, 3)
		for _, at := range spotsOf(laidOut(job)) {
			d := laidOut(job)
			d.at(at).raw = laidOut(other).at(at).raw
			if at.chunk == 0 && at.module > 0 {
				wantRead(t, d.file(), "pre", fullRing(), false, broken(all, 0))
			} else {
				wantRead(t, d.file(), "pre", fullRing(), false, all)
			}
		}
		d := laidOut(job)
		d.chunks[0] = laidOut(other).chunks[0]
		wantRead(t, d.file(), "pre", fullRing(), false, foundOf(other, fullRing()))
	}
}

// footOf is the footer part of a job's file.
func footOf(job api.Job) string {
	d := draftOf(job, fullRing())
	file := d.file()
	end := len(file) - 4
	return file[end-int(file[end])-256*int(file[end+1]) : end]
}

func TestP8FootersOfOtherFiles(t *testing.T) {
	with := func(job, other api.Job) string {
		file := draftOf(job, fullRing()).file()
		part := footOf(other)
		return strings.TrimSuffix(file, footOf(job)+file[len(file)-4:]) + part + referenceTwo(len(part)) + "CF"
	}
	for _, open := range []bool{false, true} {
		job := sealedJob(open)
		all := foundOf(job, fullRing())
		other := sealedJob(open)
		wantRead(t, with(job, other), "pre", fullRing(), false, all)
		// One of the same footer, sealed with another nonce.
		other.Draw = 8
		wantRead(t, with(job, other), "pre", fullRing(), false, all)
		other.Prefix = "prf"
		wantNoRead(t, with(job, other), "pre", fullRing(), false, api.ErrSeal)
		wantNoRead(t, with(job, other), "prf", without(3), false, api.ErrNoKey)
		wantRead(t, with(job, other), "prf", fullRing(), false, broken(all, 0, 1, 2, 3))
		// One that is sealed with another key.
		other = sealedJob(open)
		other.Plan.Foot = 4
		if open {
			wantNoRead(t, with(job, other), "pre", fullRing(), true, api.ErrFile)
		} else {
			wantNoRead(t, with(job, other), "pre", fullRing(), true, api.ErrSeal)
		}
		// One of other names, kinds and keys.
		other = sealedJob(open)
		other.Table = slices.Clone(other.Table)
		other.Table[0].Name, other.Table[1].Key = "z", 5
		want := broken(all, 1)
		want[0].Name, want[1].Key = "z", 5
		wantRead(t, with(job, other), "pre", fullRing(), false, want)
		// One of another layout.
		other = sealedJob(open)
		other.Plan.Page = 2
		wantNoRead(t, with(job, other), "pre", fullRing(), false, api.ErrFile)
		other = sealedJob(open)
		other.Table = other.Table[:3]
		wantNoRead(t, with(job, other), "pre", fullRing(), false, api.ErrFile)
	}
	// One of the other mode.
	wantNoRead(t, with(sealedJob(false), sealedJob(true)), "pre", fullRing(), true, api.ErrFile)
	wantNoRead(t, with(sealedJob(true), sealedJob(false)), "pre", fullRing(), true, api.ErrFile)
}

func TestP8Signs(t *testing.T) {
	job := small(true)
	all := foundOf(job, fullRing())
	signed := func(sign func(footer string) referenceModule) string {
		return drafted(true, func(d *referenceDraft) {
			d.part = func(footer string) []referenceModule {
				return []referenceModule{{plain: footer}, sign(footer)}
			}
		})
	}
	place := func(sort string) string { return sort + referenceTwo(0, 0, 0) }
	wantRead(t, signed(func(footer string) referenceModule {
		return referenceModule{key: 3, place: place("S") + footer}
	}), "pre", fullRing(), false, all)
	for _, sign := range []func(footer string) referenceModule{
		func(footer string) referenceModule {
			return referenceModule{key: 3, place: place("S") + footer, plain: "x"}
		},
		func(footer string) referenceModule {
			return referenceModule{key: 3, place: place("S") + footer, plain: footer}
		},
		func(footer string) referenceModule { return referenceModule{key: 3, place: place("F") + footer} },
		func(footer string) referenceModule {
			return referenceModule{key: 3, place: place("F"), plain: footer}
		},
		func(footer string) referenceModule { return referenceModule{key: 3, place: place("S")} },
		func(footer string) referenceModule {
			return referenceModule{key: 3, place: place("S") + footer + "\x00"}
		},
		func(footer string) referenceModule { return referenceModule{key: 3, place: place("S") + footer[1:]} },
		func(footer string) referenceModule {
			return referenceModule{key: 3, place: "S" + referenceTwo(1, 0, 0) + footer}
		},
		func(footer string) referenceModule { return referenceModule{key: 4, place: place("S") + footer} },
		func(footer string) referenceModule { return referenceModule{raw: rawSealed("some text")} },
	} {
		wantNoRead(t, signed(sign), "pre", fullRing(), false, api.ErrSeal)
		wantNoRead(t, signed(sign), "pre", without(3), false, api.ErrNoKey)
		wantRead(t, signed(sign), "pre", fullRing(), true, all)
		wantRead(t, signed(sign), "pre", without(1, 3), true, foundOf(job, without(1, 3)))
	}
}

func TestP8FootersOfOtherPlaces(t *testing.T) {
	for _, place := range []string{
		"S" + referenceTwo(0, 0, 0), "P" + referenceTwo(0, 0, 0), "M" + referenceTwo(0, 0, 0), "F" + referenceTwo(1, 0, 0), "F" + referenceTwo(0, 1, 0),
		"F" + referenceTwo(0, 0, 1), "F" + referenceTwo(0, 0), "F", "f" + referenceTwo(0, 0, 0), "F" + referenceTwo(0, 0, 0) + smallFooter(),
	} {
		file := drafted(false, func(d *referenceDraft) {
			d.part = func(footer string) []referenceModule {
				return []referenceModule{{key: 3, place: place, plain: footer}}
			}
		})
		wantNoRead(t, file, "pre", fullRing(), false, api.ErrSeal)
		wantNoRead(t, file, "pre", fullRing(), true, api.ErrSeal)
	}
}

// Right pages and metas, sealed with the right key, but for another place.
func TestP9SealsOfOtherPlaces(t *testing.T) {
	job := small(false)
	all := foundOf(job, fullRing())
	for _, at := range spotsOf(draftOf(job, fullRing())) {
		c := at.chunk % 3
		if c == 1 {
			continue
		}
		for field := range 7 {
			file := drafted(false, func(d *referenceDraft) {
				place := []byte(d.at(at).place)
				place[field] ^= 1
				d.at(at).place = string(place)
			})
			wantRead(t, file, "pre", fullRing(), false, broken(all, c))
		}
		for _, sort := range "PMFS" {
			file := drafted(false, func(d *referenceDraft) { d.at(at).place = string(sort) + d.at(at).place[1:] })
			if plainSort := draftOf(job, fullRing()).at(at).place[0]; rune(plainSort) == sort {
				wantRead(t, file, "pre", fullRing(), false, all)
			} else {
				wantRead(t, file, "pre", fullRing(), false, broken(all, c))
			}
		}
		for _, key := range []int{3, 4, 3 - job.Table[c].Key} {
			file := drafted(false, func(d *referenceDraft) { d.at(at).key = key })
			wantRead(t, file, "pre", fullRing(), false, broken(all, c))
		}
	}
}

// plained is a file of one column of four cells in pages of two, with other
// plain texts, all of them sealed as they should be if the column has a key.
func plained(kind, key int, plains ...string) string {
	cells := repeat(4, ints(nil))
	d := draftOf(api.Job{Table: []api.Column{column("n", kind, key, cells), column("m", api.Ints, 0, cells)}, Plan: api.Plan{Group: 4, Page: 2, Foot: 3}}, fullRing())
	for i, plain := range plains {
		d.chunks[0][i].plain = plain
	}
	return d.file()
}

func wantPlained(t *testing.T, kind, key, state int, cells []api.Cell, plains ...string) {
	t.Helper()
	wantRead(t, plained(kind, key, plains...), "", fullRing(), false, []api.Found{
		{Name: "n", Kind: kind, Key: key, State: state, Cells: cells}, {Name: "m", Cells: repeat(4, ints(nil))},
	})
}

func TestP9PagesOfOtherNumbersOfCells(t *testing.T) {
	for kind, cells := range map[int][]api.Cell{api.Ints: ints(1, nil, 3, 4, 5, 6, 7), api.Texts: texts("a", nil, "b", "c", "d", "e", "f")} {
		for _, key := range []int{0, 1} {
			for first := range 5 {
				for second := range 4 {
					all := cells[:first+second]
					plains := []string{referencePage(kind, all[:first]), referencePage(kind, all[first:]), referenceMeta(kind, all)}
					if first == 2 && second == 2 {
						wantPlained(t, kind, key, api.Got, all, plains...)
					} else {
						wantPlained(t, kind, key, api.Broken, nil, plains...)
					}
				}
			}
		}
	}
	// The last page of a group has what is left, neither more nor less.
	for _, key := range []int{0, 1} {
		for n := range 4 {
			job := api.Job{Table: []api.Column{column("n", api.Ints, key, ints(1, 2, 3))}, Plan: api.Plan{Group: 60, Page: 2, Foot: 3}}
			d := draftOf(job, fullRing())
			cells := ints(1, 2, 3, 4, 5)[:2+n]
			d.chunks[0][1].plain, d.chunks[0][2].plain = referencePage(api.Ints, cells[2:]), referenceMeta(api.Ints, cells)
			want := foundOf(job, fullRing())
			if n != 1 {
				want = broken(want, 0)
			}
			wantRead(t, d.file(), "", fullRing(), false, want)
		}
	}
}

// Whoever trusts a footer may be told of more or fewer rows than there are.
func TestP9RowsThatAreNotThere(t *testing.T) {
	for _, key := range []int{0, 1} {
		job := api.Job{Table: []api.Column{column("n", api.Ints, key, ints(1, 2, 3))}, Plan: api.Plan{Group: 60, Page: 60, Foot: 3, Open: true}}
		for rows := 1; rows <= 61; rows++ {
			told := job
			told.Table = []api.Column{column("n", api.Ints, key, make([]api.Cell, rows))}
			d := draftOf(job, fullRing())
			d.footer = func(places []int) string { return referenceFooter(told, places) }
			for _, trust := range []bool{false, true} {
				switch {
				case rows == 3:
					wantRead(t, d.file(), "", fullRing(), trust, foundOf(job, fullRing()))
				case rows <= 60:
					wantRead(t, d.file(), "", fullRing(), trust, broken(foundOf(job, fullRing()), 0))
				default:
					wantNoRead(t, d.file(), "", fullRing(), trust, api.ErrFile)
				}
			}
		}
	}
}

func TestP9PagesThatAreNone(t *testing.T) {
	numbers, words := ints(1, 2, 9, nil), texts("a", nil, "b", "b")
	for _, key := range []int{0, 1} {
		for kind, cells := range map[int][]api.Cell{api.Ints: numbers, api.Texts: words} {
			first, second, meta := referencePage(kind, cells[:2]), referencePage(kind, cells[2:]), referenceMeta(kind, cells)
			wantPlained(t, kind, key, api.Got, cells, first, second, meta)
			for _, page := range []string{"", "\x00", "\x02", "\x02\x02", first + "\x00", first[:len(first)-1], "\x00" + first, first + first, meta, "\x02\x00\x02\x00", "\x02\x00\x03", "\x82\x00" + first[1:], strings.Repeat("\xff", 20)} {
				wantPlained(t, kind, key, api.Broken, nil, page, second, meta)
			}
			for _, page := range referenceWays(kind, cells[:2]) {
				if page != first {
					wantPlained(t, kind, key, api.Broken, nil, page, second, meta)
				}
			}
		}
		// Pages and metas of the other kind.
		wantPlained(t, api.Ints, key, api.Broken, nil, referencePage(api.Texts, words[:2]), referencePage(api.Texts, words[2:]), referenceMeta(api.Texts, words))
		wantPlained(t, api.Texts, key, api.Broken, nil, referencePage(api.Ints, numbers[:2]), referencePage(api.Ints, numbers[2:]), referenceMeta(api.Ints, numbers))
		wantPlained(t, api.Ints, key, api.Broken, nil, referencePage(api.Ints, numbers[:2]), referencePage(api.Texts, words[2:]), referenceMeta(api.Ints, numbers))
		// Those of nothing but null are the same in both.
		for kind := range 2 {
			wantPlained(t, kind, key, api.Got, repeat(4, ints(nil)), "\x02\x00\x02", "\x02\x00\x02", "\x04\x00")
		}
	}
	long := strings.Repeat("x", 13)
	wantPlained(t, api.Texts, 1, api.Broken, nil, "\x02\x02\x00\x0d"+long+"\x00", "\x02\x00\x02", "\x02\x00")
	wantPlained(t, api.Texts, 1, api.Got, texts(long[1:], "", nil, nil), "\x02\x02\x00\x0c"+long[1:]+"\x00", "\x02\x00\x02", "\x02\x00")
}

func TestP9MetasThatAreNotTheChunks(t *testing.T) {
	for _, c := range []struct {
		kind  int
		cells []api.Cell
		meta  string
		wrong []string
	}{
		{api.Ints, ints(5, nil, -3, 7), "\x01\x01\x05\x0e", []string{
			"", "\x01", "\x01\x01", "\x01\x01\x05", "\x00\x01\x05\x0e", "\x02\x01\x05\x0e", "\x01\x00", "\x01\x00\x05\x0e", "\x01\x02\x05\x0e", "\x01\x01\x04\x0e", "\x01\x01\x05\x0c", "\x01\x01\x07\x0e", "\x01\x01\x05\x10",
			"\x01\x01\x0e\x05", "\x01\x01\x05\x0e\x00", "\x81\x00\x01\x05\x0e", "\x01\x01\x85\x00\x0e", "\x01\x01\x05\x8e\x00", "\x01\x01\x05\x05", "\x01\x01\x0e\x0e", "\x01\x01\x05\x0a",
		}},
		{api.Ints, ints(most, least, 0, 0), "\x00\x01\xff\xff\xff\xff\xff\xff\xff\xff\xff\x01\xfe\xff\xff\xff\xff\xff\xff\xff\xff\x01", []string{
			"\x00\x00", "\x00\x01\x00\x00", "\x00\x01\xfe\xff\xff\xff\xff\xff\xff\xff\xff\x01\xff\xff\xff\xff\xff\xff\xff\xff\xff\x01", "\x00\x01\xff\xff\xff\xff\xff\xff\xff\xff\xff\x03\xfe\xff\xff\xff\xff\xff\xff\xff\xff\x01",
		}},
		{api.Ints, ints(nil, nil, nil, nil), "\x04\x00", []string{"", "\x04", "\x00\x00", "\x03\x00", "\x05\x00", "\x04\x01", "\x04\x01\x00\x00", "\x04\x00\x00", "\x84\x00\x00", "\x00\x04"}},
		{api.Texts, texts("a", nil, nil, ""), "\x02\x00", []string{"", "\x02", "\x00\x00", "\x01\x00", "\x03\x00", "\x02\x01", "\x02\x01\x00\x00", "\x02\x00\x00", "\x82\x00\x00", "\x02\x00a"}},
		{api.Texts, texts("a", "b", "c", "d"), "\x00\x00", []string{"", "\x00", "\x01\x00", "\x00\x01", "\x04\x00", "\x00\x01\x00\x00"}},
	} {
		for _, key := range []int{0, 1, 9} {
			first, second := referencePage(c.kind, c.cells[:2]), referencePage(c.kind, c.cells[2:])
			wantPlained(t, c.kind, key, api.Got, c.cells, first, second, c.meta)
			for _, meta := range c.wrong {
				wantPlained(t, c.kind, key, api.Broken, nil, first, second, meta)
			}
		}
	}
}

// Wherever a column is touched, just it is Broken, and none of its cells is
// told; without its key it is Locked, touched or not.
func TestP9OneModuleTouched(t *testing.T) {
	for _, open := range []bool{false, true} {
		job := small(open)
		for _, at := range spotsOf(draftOf(job, fullRing())) {
			c := at.chunk % 3
			file := drafted(open, func(d *referenceDraft) { d.at(at).plain += "x" })
			wantRead(t, file, "pre", fullRing(), false, broken(foundOf(job, fullRing()), c))
			for _, gone := range []int{1, 2} {
				want := foundOf(job, without(gone))
				if want[c].State != api.Locked {
					want = broken(want, c)
				}
				wantRead(t, file, "pre", without(gone), false, want)
			}
			for _, other := range spotsOf(draftOf(job, fullRing())) {
				file := drafted(open, func(d *referenceDraft) { d.at(at).plain, d.at(other).plain = "no page", "no meta" })
				wantRead(t, file, "pre", fullRing(), false, broken(foundOf(job, fullRing()), c, other.chunk%3))
			}
		}
	}
}

// The groups are held apart: a meta is that of its own chunk.
func TestP9MetasOfOtherChunks(t *testing.T) {
	for _, key := range []int{0, 1} {
		job := api.Job{Table: []api.Column{column("n", api.Ints, key, ints(1, 2, 3, 4))}, Plan: api.Plan{Group: 2, Page: 2, Foot: 3}}
		d := draftOf(job, fullRing())
		d.chunks[0][1].plain, d.chunks[1][1].plain = d.chunks[1][1].plain, d.chunks[0][1].plain
		wantRead(t, d.file(), "", fullRing(), false, broken(foundOf(job, fullRing()), 0))
		d = draftOf(job, fullRing())
		d.chunks[0][1].plain, d.chunks[1][1].plain = referenceMeta(api.Ints, ints(1, 2, 3, 4)), referenceMeta(api.Ints, ints(1, 2, 3, 4))
		wantRead(t, d.file(), "", fullRing(), false, broken(foundOf(job, fullRing()), 0))
		// Pages that change places with their metas are told as they stand,
		// if they are sealed so, or not sealed.
		d = draftOf(job, fullRing())
		for i := range 2 {
			d.chunks[0][i].plain, d.chunks[1][i].plain = d.chunks[1][i].plain, d.chunks[0][i].plain
		}
		want := foundOf(job, fullRing())
		want[0].Cells = ints(3, 4, 1, 2)
		wantRead(t, d.file(), "", fullRing(), false, want)
	}
}

// Of drafts that were turned at random Read tells what the reference does.
func TestP8P9ManyDrafts(t *testing.T) {
	dice := rand.New(rand.NewSource(6))
	states := map[string]int{}
	for range 3000 {
		job := diceJob(dice)
		d := draftOf(job, fullRing())
		spots := spotsOf(d)
		for range dice.Intn(3) {
			if len(spots) == 0 {
				break
			}
			m := d.at(spots[dice.Intn(len(spots))])
			other := d.at(spots[dice.Intn(len(spots))])
			switch dice.Intn(5) {
			case 0:
				m.plain, other.plain = other.plain, m.plain
			case 1:
				m.place = other.place
			case 2:
				m.plain = touch(m.plain, dice.Intn(len(m.plain)), byte(dice.Intn(4)))
			case 3:
				m.raw = d.lay(*other)
			case 4:
				m.key = other.key
			}
		}
		found, e := wantReadReference(t, d.file(), job.Prefix, diceRing(dice), dice.Intn(2) == 0)
		states[fmt.Sprint("error ", e)]++
		for _, f := range found {
			states[fmt.Sprint("state ", f.State)]++
		}
	}
	for _, what := range []string{"error 0", "error 8", "error 9", "state 0", "state 1", "state 2"} {
		if states[what] < 50 {
			t.Errorf("there was too little of %s: %v", what, states)
		}
	}
}
