package coffer

import (
	"fmt"
	"math/rand"
	"slices"
	"strings"
	"testing"

	"coffer/api"
)

// apart is the job's file in its modules, the footer part among them: all of
// them stay as they are, wherever they are put.
func apart(t *testing.T, job api.Job) *referenceDraft {
	t.Helper()
	d := laidOut(job)
	d.footed(footOf(job))
	if d.file() != fileOf(t, job) {
		t.Fatalf("taken apart and joined, the file is another one")
	}
	return d
}

func (d *referenceDraft) footed(part string) {
	d.part = func(string) []referenceModule { return []referenceModule{{raw: part}} }
}

// strange is a job that takes the place of sealedJob: its cells are others,
// but all of its modules are as long.
func strange(open bool) api.Job {
	job := sealedJob(open)
	job.Table[0].Cells, job.Table[1].Cells, job.Table[2].Cells = ints(11, 12, 13), ints(14, 15, 16), ints(11, 12, 13)
	job.Table[3].Cells = texts("u", nil, "w")
	job.Draw = 7
	return job
}

// sealedJobs are jobs of which one is sealedJob, and none is strange.
func sealedJobs(open bool) []api.Job {
	return []api.Job{under("prf", sealedJob(open)), sealedJob(open), under("", strange(open))}
}

func TestP10ChunksOfNoJob(t *testing.T) {
	for _, open := range []bool{false, true} {
		jobs := sealedJobs(open)
		for some := range 1 << 8 {
			d, from := apart(t, sealedJob(open)), apart(t, strange(open))
			var places []string
			for i := range d.chunks {
				if some&(1<<i) != 0 {
					d.chunks[i] = from.chunks[i]
					for _, m := range d.chunks[i] {
						places = append(places, "\x03pre"+m.place)
					}
				}
			}
			if some == 0 {
				wantCalm(t, "the file itself", jobs, fullRing(), d.file(), "pre")
				continue
			}
			given := wantForged(t, "chunks of no job", jobs, fullRing(), d.file(), "pre")
			if !slices.Contains(places, given.Extra) {
				t.Errorf("P10: with the chunks %b put in is given away %q", some, given)
			}
		}
	}
}

// One module from elsewhere fits the others of its chunk, or breaks it.
func TestP10ModulesOfNoJob(t *testing.T) {
	for _, open := range []bool{false, true} {
		jobs := sealedJobs(open)
		forged := 0
		for _, at := range spotsOf(draftOf(sealedJob(open), fullRing())) {
			// A module that says the same, sealed with another nonce.
			again := sealedJob(open)
			again.Draw = 9
			d := apart(t, sealedJob(open))
			d.at(at).raw = apart(t, again).at(at).raw
			wantCalm(t, "a module that says the same", jobs, fullRing(), d.file(), "pre")
			// One that says something else.
			d = apart(t, sealedJob(open))
			d.at(at).raw = apart(t, strange(open)).at(at).raw
			if wantForgedReference(t, jobs, fullRing(), d.file(), "pre") == api.OK {
				forged++
			}
			wantForged(t, "a module that says something else, no jobs", nil, fullRing(), d.file(), "pre")
		}
		// Of the numbers the meta gives away any one that is another.
		if forged != 2 {
			t.Errorf("%d modules fit in, want the two texts", forged)
		}
	}
}

func TestP10ModulesOfOtherJobs(t *testing.T) {
	for _, open := range []bool{false, true} {
		jobs := sealedJobs(open)
		for _, at := range spotsOf(draftOf(sealedJob(open), fullRing())) {
			for _, other := range []api.Job{jobs[0], jobs[2]} {
				d := apart(t, sealedJob(open))
				d.at(at).raw = apart(t, other).at(at).raw
				wantCalm(t, "a module of another job breaks its column", jobs, fullRing(), d.file(), "pre")
				wantForged(t, "a module of another job, none with the prefix", jobs[:1], fullRing(), d.file(), "pre")
				d = apart(t, sealedJob(open))
				d.chunks[at.chunk] = apart(t, other).chunks[at.chunk]
				wantCalm(t, "a chunk of another job breaks its column", jobs, fullRing(), d.file(), "pre")
				// In a strange file, one column breaks, the others give it away.
				d = apart(t, strange(open))
				d.at(at).raw = apart(t, other).at(at).raw
				wantForged(t, "a module of another job in a strange file", jobs, fullRing(), d.file(), "pre")
				// Modules of other jobs are never given away as the file's.
				d = apart(t, other)
				d.at(at).raw = apart(t, sealedJob(open)).at(at).raw
				wantCalm(t, "a module in another job's file", jobs, fullRing(), d.file(), other.Prefix)
				wantCalm(t, "another job's file", jobs, fullRing(), d.file(), "pre")
			}
			// A module of the job in a strange file: others give it away.
			d := apart(t, strange(open))
			d.at(at).raw = apart(t, sealedJob(open)).at(at).raw
			wantForged(t, "a module of the job in a strange file", jobs, fullRing(), d.file(), "pre")
		}
	}
}

func TestP10ModulesThatChangePlaces(t *testing.T) {
	for _, open := range []bool{false, true} {
		jobs := sealedJobs(open)
		spots := spotsOf(draftOf(sealedJob(open), fullRing()))
		for _, one := range spots {
			for _, other := range spots {
				d := apart(t, sealedJob(open))
				d.at(one).raw, d.at(other).raw = d.at(other).raw, d.at(one).raw
				wantNoForgery(t, "modules that change places", jobs, fullRing(), d.file(), "pre", api.ErrCalm)
			}
		}
	}
}

func TestP10FootersPutIn(t *testing.T) {
	for _, open := range []bool{false, true} {
		jobs := sealedJobs(open)
		foot := func(turn func(job *api.Job)) string {
			other := sealedJob(open)
			turn(&other)
			return footOf(other)
		}
		with := func(job api.Job, part string) string {
			d := apart(t, job)
			d.footed(part)
			return d.file()
		}
		same := foot(func(job *api.Job) { job.Draw = 9 })
		wantCalm(t, "a footer that says the same", jobs, fullRing(), with(sealedJob(open), same), "pre")
		wantForged(t, "a footer that says the same, and cells that do not", jobs, fullRing(), with(strange(open), same), "pre")
		wantForged(t, "the job's footer, and cells that are others", jobs, fullRing(), with(strange(open), footOf(sealedJob(open))), "pre")
		wantCalm(t, "a strange footer, and the job's cells", jobs, fullRing(), with(sealedJob(open), footOf(strange(open))), "pre")
		wantCalm(t, "another job's footer", jobs, fullRing(), with(sealedJob(open), footOf(jobs[0])), "pre")
		wantCalm(t, "another job's footer, under its prefix", jobs, fullRing(), with(sealedJob(open), footOf(jobs[0])), "prf")
		wantForged(t, "another job's footer, under its prefix", jobs[1:], fullRing(), with(sealedJob(open), footOf(jobs[0])), "prf")
		wantCalm(t, "a footer of another key", jobs, fullRing(), with(sealedJob(open), foot(func(job *api.Job) { job.Plan.Foot = 4 })), "pre")
		for what, turn := range map[string]func(job *api.Job){
			"a footer of another name": func(job *api.Job) { job.Table[3].Name = "z" },
			"a footer of other names":  func(job *api.Job) { job.Table[0].Name, job.Table[1].Name = "b", "a" },
			"a footer of another key":  func(job *api.Job) { job.Table[0].Key = 2 },
			"a footer of another kind": func(job *api.Job) { job.Table[3].Kind, job.Table[3].Cells = api.Ints, ints(most, nil, 1) },
			"a footer of both":         func(job *api.Job) { job.Table[0].Name, job.Table[3].Key = "y", 9 },
		} {
			part := foot(turn)
			if what == "a footer of another kind" {
				// Its chunks are not as long: the footer tells the job's places.
				d := draftOf(sealedJob(open), fullRing())
				d.footer = func(places []int) string {
					job := sealedJob(open)
					job.Table[3].Kind = api.Ints
					return referenceFooter(job, places)
				}
				file := d.file()
				part = file[len(fileOf(t, sealedJob(open)))-4-len(footOf(sealedJob(open))) : len(file)-4]
			}
			given := wantForged(t, what, jobs, fullRing(), with(sealedJob(open), part), "pre")
			if !strings.HasPrefix(given.Extra, "\x03preF") && !strings.HasPrefix(given.Extra, "\x03preS") {
				t.Errorf("P10: %s: all pages and metas are the job's, but %q is given away", what, given)
			}
		}
	}
}

func TestP10SignsPutIn(t *testing.T) {
	jobs := sealedJobs(true)
	footer := func(job api.Job) string {
		form, _ := referenceReadForm(fileOf(t, job))
		return form.footer
	}
	sign := func(job api.Job) string {
		part := footOf(job)
		return part[2+len(footer(job)):]
	}
	with := func(job, told, signed api.Job) string {
		d := apart(t, job)
		d.footed(referenceTwo(len(footer(told))) + footer(told) + sign(signed))
		return d.file()
	}
	job, odd := sealedJob(true), strange(true)
	renamed := sealedJob(true)
	renamed.Table[0].Name = "z"
	wantCalm(t, "the file itself", jobs, fullRing(), with(job, job, job), "pre")
	wantCalm(t, "a sign of no job that says the same", jobs, fullRing(), with(job, job, odd), "pre")
	wantForged(t, "the job's sign, and cells that are others", jobs, fullRing(), with(odd, job, job), "pre")
	wantCalm(t, "a sign for another footer", jobs, fullRing(), with(job, job, renamed), "pre")
	wantCalm(t, "a footer without its sign", jobs, fullRing(), with(job, renamed, job), "pre")
	wantCalm(t, "cells that are others, and a footer without its sign", jobs, fullRing(), with(odd, renamed, job), "pre")
	wantCalm(t, "a sign of another job", jobs, fullRing(), with(odd, odd, jobs[0]), "pre")
	given := wantForged(t, "another footer, and its sign", jobs, fullRing(), with(job, renamed, renamed), "pre")
	if !strings.HasPrefix(given.Extra, "\x03preS") || given.Nonce+given.Body != sign(renamed)[2:] {
		t.Errorf("P10: not the sign is given away, but %q", given)
	}
	// Locked columns leave the sign alone.
	given = wantForged(t, "the sign alone is opened", nil, fullRing()[2:3], with(odd, odd, odd), "pre")
	if given.Nonce+given.Body != sign(odd)[2:] || given.Secret != "secret-3" {
		t.Errorf("P10: not the sign is given away, but %q", given)
	}
}

// Two keys of one secret are two keys.
func TestP10KeysOfOneSecret(t *testing.T) {
	ring := fullRing()
	for i := range ring {
		ring[i].Secret = "the same"
	}
	for _, open := range []bool{false, true} {
		write := func(turn func(job *api.Job)) string {
			file, _ := mustWrite(t, smallWith(open, turn), ring)
			return file
		}
		jobs := []api.Job{small(open)}
		wantCalm(t, "the file itself", jobs, ring, write(func(*api.Job) {}), "pre")
		wantCalm(t, "another Foot", jobs, ring, write(func(job *api.Job) { job.Plan.Foot = 9 }), "pre")
		wantForged(t, "another key", jobs, ring, write(func(job *api.Job) { job.Table[0].Key = 2 }), "pre")
		wantForged(t, "keys that change places", jobs, ring, write(func(job *api.Job) { job.Table[0].Key, job.Table[2].Key = 2, 1 }), "pre")
		wantForged(t, "another cell", jobs, ring, write(func(job *api.Job) { job.Table[0].Cells[0].Int = 4 }), "pre")
	}
}

// diceJobs are jobs, no two of them with the same prefix.
func diceJobs(dice *rand.Rand, n int) []api.Job {
	var jobs []api.Job
	for i := range n {
		prefix := steps(dice.Intn(20), dice.Intn(256)) + string(rune('a'+i))
		jobs = append(jobs, under(prefix, diceJob(dice)))
	}
	return jobs
}

// twin is another cell, mostly one that takes as many bytes.
func twin(kind int, cell api.Cell) api.Cell {
	switch {
	case cell.Null:
	case kind == api.Ints:
		cell.Int ^= 1
	case cell.Text != "":
		cell.Text = flip(cell.Text, 0, 1)
	}
	return cell
}

// diceTurned is a copy of the job, with something about it turned.
func diceTurned(dice *rand.Rand, job api.Job) api.Job {
	job.Table = slices.Clone(job.Table)
	c := &job.Table[dice.Intn(len(job.Table))]
	c.Cells = slices.Clone(c.Cells)
	switch dice.Intn(8) {
	case 0:
		job.Draw = dice.Intn(65536)
	case 1:
		job.Plan = diceJob(dice).Plan
	case 2:
		c.Name = "zz" + c.Name[len(c.Name)-1:]
	case 3:
		c.Key = dice.Intn(10)
	case 4:
		dice.Shuffle(len(job.Table), func(i, k int) { job.Table[i], job.Table[k] = job.Table[k], job.Table[i] })
	case 5:
		for i := range c.Cells {
			if dice.Intn(3) == 0 {
				c.Cells[i] = otherCells(c.Kind, c.Cells[i])[dice.Intn(3)]
			}
		}
	default:
		for i, cell := range c.Cells {
			c.Cells[i] = twin(c.Kind, cell)
		}
	}
	return job
}

// diceForged is a file that begins as the job's: turned, mixed with another
// one of the same prefix, or touched.
func diceForged(dice *rand.Rand, job api.Job) string {
	other := diceTurned(dice, job)
	d, from := laidOut(other), laidOut(diceTurned(dice, other))
	if dice.Intn(2) == 0 {
		d.footed(footOf(other))
	}
	for i := range min(len(d.chunks), len(from.chunks)) {
		if dice.Intn(3) == 0 {
			d.chunks[i] = from.chunks[i]
		}
	}
	file := d.file()
	if dice.Intn(4) == 0 {
		at := dice.Intn(len(file))
		file = touch(file, at, file[at]^byte(1<<dice.Intn(8)))
	}
	return file
}

func isSealedFor(jobs []api.Job, ring []api.Key, one api.Sealed) bool {
	return slices.ContainsFunc(jobs, func(job api.Job) bool {
		_, sealed := referenceWrite(job, ring)
		return slices.Contains(sealed, one)
	})
}

func TestP10ManyForgeries(t *testing.T) {
	dice := rand.New(rand.NewSource(9))
	answers := map[string]int{}
	for range 1500 {
		jobs := diceJobs(dice, dice.Intn(5))
		job := diceJobs(dice, 6)[5]
		if len(jobs) > 0 && dice.Intn(5) > 0 {
			job = jobs[dice.Intn(len(jobs))]
		}
		file := diceForged(dice, job)
		if dice.Intn(8) == 0 {
			file = fileOf(t, job)
		}
		ring := fullRing()
		if dice.Intn(6) == 0 {
			ring = diceRing(dice)
		}
		e := wantForgedReference(t, jobs, ring, file, job.Prefix)
		answers[fmt.Sprint("error ", e)]++
		if e == api.OK && isSealedFor(jobs, ring, referenceOpened(file, job.Prefix, ring)[0]) {
			answers["a job's footer"]++
		}
	}
	for _, what := range []string{"error 0", "error 10", "error 11", "a job's footer"} {
		if answers[what] < 50 {
			t.Errorf("there was too little of %s: %v", what, answers)
		}
	}
}

func FuzzP10ForgedIsTheReferences(f *testing.F) {
	for _, c := range knownFiles {
		f.Add(unhex(f, c.file), c.job.Prefix, 0, 8, true)
		f.Add(unhex(f, c.file), "else", c.job.Plan.Foot, 3, false)
	}
	for _, open := range []bool{false, true} {
		for _, job := range severalJobs(open) {
			file, _ := referenceWrite(job, fullRing())
			f.Add(file, job.Prefix, 0, 8, open)
			f.Add(file, job.Prefix, 4, 1, !open)
		}
	}
	f.Fuzz(func(t *testing.T, file, prefix string, gone, n int, open bool) {
		jobs := append(severalJobs(open), under("ninth", goodJob()))
		wantForgedReference(t, jobs[:max(0, min(n, 9))], without(gone), file, prefix)
	})
}

// What is sealed is what the fuzzer has found, so that it comes further in.
func FuzzP10ForgedDraftsLikeTheReference(f *testing.F) {
	f.Add("\x01\x01\x01\x02", "\x00\x01\x02\x02", "\x01\x01\x01\x03\x01\x01a\x00\x01\x04", 1, 7, true)
	f.Add("\x01\x01\x01\x04", "\x00\x01\x04\x04", "\x01\x01\x01\x03\x01\x01a\x00\x01\x04", 1, 7, false)
	f.Add("\x01\x01\x00\x01x", "\x00\x00", "\x01\x01\x01\x03\x01\x03who\x01\x00\x04", 0, 8, false)
	f.Fuzz(func(t *testing.T, page, meta, footer string, key, draw int, open bool) {
		if len(page) > 60000 || len(meta) > 60000 || len(footer) > 60000 || key < 0 || key > 9 || draw < 0 || draw > 65535 {
			return
		}
		job := api.Job{Table: []api.Column{column("a", api.Ints, key, ints(1))}, Plan: api.Plan{Group: 1, Page: 1, Foot: 3, Open: open}, Draw: 7}
		d := draftOf(job, fullRing())
		d.draw = draw
		d.chunks[0][0].plain, d.chunks[0][1].plain = page, meta
		d.footer = func([]int) string { return footer }
		wantForgedReference(t, []api.Job{under("else", job), job}, fullRing(), d.file(), "")
	})
}
