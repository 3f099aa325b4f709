package coffer

import (
	"fmt"
	"math/rand"
	"slices"
	"strings"
	"testing"

	"coffer/api"
)

func wantNoForgery(t *testing.T, what string, jobs []api.Job, ring []api.Key, file, prefix string, want api.Errno) {
	t.Helper()
	if given, e := Forged(jobs, ring, file, prefix); given != (api.Sealed{}) || e != want {
		t.Errorf("P10: %s: Forged(%.300q, .., %.300x, %.30q) = %q, %d, want error %d", what, fmt.Sprint(jobs), file, prefix, given, e, want)
	}
}

func wantCalm(t *testing.T, what string, jobs []api.Job, ring []api.Key, file, prefix string) {
	t.Helper()
	if e := referenceForgedError(jobs, ring, file, prefix); e != api.ErrCalm {
		t.Errorf("%s: the reference has %d", what, e)
	}
	wantNoForgery(t, what, jobs, ring, file, prefix, api.ErrCalm)
}

func wantNoJobs(t *testing.T, what string, jobs []api.Job, ring []api.Key, file, prefix string) {
	t.Helper()
	wantNoForgery(t, what, jobs, ring, file, prefix, api.ErrJobs)
}

// wantForged: what is given away opens, stands in the file where it is opened
// when this is read, was not sealed for any of the jobs, and is told again.
func wantForged(t *testing.T, what string, jobs []api.Job, ring []api.Key, file, prefix string) api.Sealed {
	t.Helper()
	if e := referenceForgedError(jobs, ring, file, prefix); e != api.OK {
		t.Errorf("%s: the reference has %d", what, e)
		return api.Sealed{}
	}
	given, e := Forged(jobs, ring, file, prefix)
	if e != api.OK {
		t.Errorf("P10: %s: Forged(%.300q, .., %.300x, %q): error %d", what, fmt.Sprint(jobs), file, prefix, e)
		return api.Sealed{}
	}
	if _, e := Open(given.Secret, given.Nonce, given.Extra, given.Body); e != api.OK {
		t.Errorf("P10: %s: what is given away does not open: %q, error %d", what, given, e)
	}
	if !slices.Contains(referenceOpened(file, prefix, ring), given) {
		t.Errorf("P10: %s: what is given away is not opened when the file is read: %q", what, given)
	}
	if isSealedFor(jobs, ring, given) {
		t.Errorf("P10: %s: what is given away was sealed for a job: %q", what, given)
	}
	if again, e := Forged(jobs, ring, file, prefix); again != given || e != api.OK {
		t.Errorf("P10: %s: first %q is given away, then %q, %d", what, given, again, e)
	}
	return given
}

// wantForgedReference: Forged answers what the reference asks for, and this
// is told.
func wantForgedReference(t *testing.T, jobs []api.Job, ring []api.Key, file, prefix string) api.Errno {
	t.Helper()
	e := referenceForgedError(jobs, ring, file, prefix)
	if e == api.OK {
		wantForged(t, "by the reference", jobs, ring, file, prefix)
	} else {
		wantNoForgery(t, "by the reference", jobs, ring, file, prefix, e)
	}
	return e
}

// smallWith is the small job with something about it turned; its lists are
// those of no other job.
func smallWith(open bool, turn func(job *api.Job)) api.Job {
	job := small(open)
	turn(&job)
	return job
}

func under(prefix string, job api.Job) api.Job {
	job.Prefix = prefix
	return job
}

// fileOf is the job's file, written with all keys.
func fileOf(t *testing.T, job api.Job) string {
	t.Helper()
	file, _ := mustWrite(t, job, fullRing())
	return file
}

// severalJobs are eight jobs, of small and other tables, one with the empty
// prefix and one with the longest.
func severalJobs(open bool) []api.Job {
	jobs := []api.Job{
		small(open), under("", small(open)), under("prf", small(!open)), under("pre\x00", sealedJob(open)),
		under(strings.Repeat("p", 20), goodJob()), under("p", goodJob()), under("no rows", small(open)), under("great", api.Job{Table: mixedTable(), Plan: small(open).Plan}),
	}
	for c := range jobs[6].Table {
		jobs[6].Table[c].Cells = nil
	}
	return jobs
}

func TestP10NoJobs(t *testing.T) {
	for _, c := range knownFiles {
		file := unhex(t, c.file)
		wantForged(t, c.name, nil, fullRing(), file, c.job.Prefix)
		wantForged(t, c.name, []api.Job{}, fullRing(), file, c.job.Prefix)
		wantForged(t, c.name, nil, fullRing()[c.job.Plan.Foot-1:c.job.Plan.Foot], file, c.job.Prefix)
		wantCalm(t, c.name, nil, without(c.job.Plan.Foot), file, c.job.Prefix)
		wantCalm(t, c.name, nil, fullRing(), file, c.job.Prefix+"x")
	}
}

// Where the footer is all that is opened, it or its sign is told in full.
func TestP10TheFooterAlone(t *testing.T) {
	for _, c := range []struct {
		at   int
		want api.Sealed
	}{
		{0, api.Sealed{Secret: "secret-3", Nonce: "\x00\x00\x00\x00", Extra: "\x00S\x00\x00\x00\x00\x00\x00\x02\x3c\x01\x03\x01\x01n\x00\x00\x04", Body: "\xcd\xfb"}},
		{1, api.Sealed{Secret: "secret-1", Nonce: "\x00\x00\x00\x00", Extra: "\x00F\x00\x00\x00\x00\x00\x00", Body: unhex(t, "adb587c3cbd1b6dee4ed91fb014ca0")}},
		{2, api.Sealed{Secret: "secret-9", Nonce: "\xff\xff\x00\x00", Extra: "\x02atS\x00\x00\x00\x00\x00\x00\x00\x3c\x3c\x09\x01\x01a\x01\x09", Body: "\xca\x58"}},
		{4, api.Sealed{Secret: "secret-7", Nonce: "\x01\x00\x00\x00", Extra: "\x04hereF\x00\x00\x00\x00\x00\x00", Body: unhex(t, "e0d5ccf0ff067b7b7520282b0634")}},
	} {
		known := knownFiles[c.at]
		if given := wantForged(t, known.name, nil, fullRing(), unhex(t, known.file), known.job.Prefix); given != c.want {
			t.Errorf("P10: %s: %q is given away, want %q", known.name, given, c.want)
		}
	}
}

func TestP10TheFilesOfTheJobs(t *testing.T) {
	for _, open := range []bool{false, true} {
		jobs := severalJobs(open)
		for i, job := range jobs {
			file := fileOf(t, job)
			for _, among := range [][]api.Job{jobs, {job}, jobs[i:], jobs[:i+1], slices.Concat(jobs[i:], jobs[:i])} {
				wantCalm(t, "the file itself", among, fullRing(), file, job.Prefix)
			}
			for k, other := range jobs {
				if k != i {
					wantCalm(t, "under another prefix", jobs, fullRing(), file, other.Prefix)
				}
			}
			others := slices.Concat(jobs[:i], jobs[i+1:])
			wantForged(t, "the file of no job", others, fullRing(), file, job.Prefix)
			wantCalm(t, "under a prefix of no job", others, fullRing(), file, "else")
			wantForged(t, "another prefix that is no job's", jobs, fullRing(), fileOf(t, under("else", job)), "else")
			wantCalm(t, "another prefix, under the job's", jobs, fullRing(), fileOf(t, under("else", job)), job.Prefix)
		}
	}
}

// A table that was written for one prefix is a forgery under another.
func TestP10TheTableOfAnotherJob(t *testing.T) {
	for _, open := range []bool{false, true} {
		jobs := severalJobs(open)
		for i, one := range jobs {
			for k, other := range jobs {
				file := fileOf(t, under(other.Prefix, one))
				same := sameFound(foundOf(one, fullRing()), foundOf(other, fullRing()))
				if same != (i == k || max(i, k) <= 2 || i+k == 9 && i*k == 20) {
					t.Fatalf("the jobs %d and %d have tables of another likeness", i, k)
				}
				if same {
					wantCalm(t, "the same table", jobs, fullRing(), file, other.Prefix)
				} else {
					wantForged(t, "the table of another job", jobs, fullRing(), file, other.Prefix)
				}
			}
		}
	}
}

// Plans and draws are no part of what is found.
func TestP10OtherWaysToWriteTheSame(t *testing.T) {
	for _, open := range []bool{false, true} {
		job := small(open)
		for _, turn := range []func(job *api.Job){
			func(job *api.Job) { job.Draw = 0 },
			func(job *api.Job) { job.Draw = 65535 },
			func(job *api.Job) { job.Plan.Open = !job.Plan.Open },
			func(job *api.Job) { job.Plan.Foot = 4 },
			func(job *api.Job) { job.Plan.Foot = 1 },
			func(job *api.Job) { job.Plan.Group = 1 },
			func(job *api.Job) { job.Plan.Group = 60 },
			func(job *api.Job) { job.Plan.Page = 1 },
			func(job *api.Job) { job.Plan.Page = 60 },
			func(job *api.Job) { job.Plan, job.Draw = api.Plan{Group: 1, Page: 2, Foot: 9, Open: !open}, 1 },
		} {
			file := fileOf(t, smallWith(open, turn))
			wantCalm(t, "another plan or draw", []api.Job{job}, fullRing(), file, "pre")
			wantForged(t, "another plan or draw, and another prefix", []api.Job{under("prf", job)}, fullRing(), file, "pre")
			wantForged(t, "another plan or draw, and another cell", []api.Job{smallWith(open, func(job *api.Job) { job.Table[2].Cells[4].Text = "f" })}, fullRing(), file, "pre")
		}
	}
}

// otherCells are cells of the kind that are not this one.
func otherCells(kind int, cell api.Cell) []api.Cell {
	all := []api.Cell{{}, {Null: true}, {Int: cell.Int + 1}, {Int: least}}
	if kind == api.Texts {
		all = []api.Cell{{}, {Null: true}, {Text: cell.Text + "x"}, {Text: "twelve bytes"}}
	}
	return slices.DeleteFunc(all, func(other api.Cell) bool { return other == cell })
}

func TestP10EveryCell(t *testing.T) {
	for _, open := range []bool{false, true} {
		jobs := []api.Job{under("prf", small(open)), small(open), under("", small(open))}
		for c, column := range small(open).Table {
			for i, cell := range column.Cells {
				for _, other := range otherCells(column.Kind, cell) {
					job := smallWith(open, func(job *api.Job) { job.Table[c].Cells[i] = other })
					if column.Key == 0 {
						wantCalm(t, "another cell of an open column", jobs, fullRing(), fileOf(t, job), "pre")
					} else {
						wantForged(t, "another cell", jobs, fullRing(), fileOf(t, job), "pre")
						wantForged(t, "another cell, and another draw", jobs, fullRing(), fileOf(t, smallWith(open, func(turned *api.Job) { *turned = job; turned.Draw++ })), "pre")
					}
				}
			}
		}
	}
}

// A file that has a job's footer, and a cell or more of which the job knows
// nothing: just what is of the cell can be given away.
func TestP10ACellUnderTheJobsFooter(t *testing.T) {
	for _, open := range []bool{false, true} {
		job := smallWith(open, func(job *api.Job) { job.Table[0].Cells, job.Plan.Page = ints(5, 6, nil, 7, 8), 1 })
		for row, cell := range job.Table[0].Cells {
			if cell.Null {
				continue
			}
			d := draftOf(job, fullRing())
			at := spot{row / 3 * 3, row % 3}
			last := spot{at.chunk, len(d.chunks[at.chunk]) - 1}
			other := slices.Clone(job.Table[0].Cells)
			other[row].Int = -1
			d.at(at).plain = referencePage(api.Ints, other[row:row+1])
			d.at(last).plain = referenceMeta(api.Ints, other[row/3*3:min(5, row/3*3+3)])
			given := wantForged(t, "a cell under the job's footer", []api.Job{job}, fullRing(), d.file(), "pre")
			if given.Extra != "\x03pre"+d.at(at).place && given.Extra != "\x03pre"+d.at(last).place {
				t.Errorf("P10: for row %d is given away %q", row, given)
			}
		}
		// A text that is as long as the one that it stands for has the same meta.
		for row := range 5 {
			d := draftOf(job, fullRing())
			at := spot{row/3*3 + 2, row % 3}
			d.at(at).plain = referencePage(api.Texts, texts("z"))
			file := d.file()
			want := slices.IndexFunc(d.sealed, func(s api.Sealed) bool { return s.Extra == "\x03pre"+d.at(at).place })
			if given := wantForged(t, "a text under the job's footer", []api.Job{job}, fullRing(), file, "pre"); given != d.sealed[want] {
				t.Errorf("P10: %q is given away, want %q", given, d.sealed[want])
			}
		}
	}
}

func TestP10Rows(t *testing.T) {
	for _, open := range []bool{false, true} {
		rows := func(n, key int) api.Job {
			return api.Job{Table: []api.Column{column("n", api.Ints, key, make([]api.Cell, n)), column("o", api.Ints, 0, make([]api.Cell, n))}, Plan: small(open).Plan, Prefix: "pre"}
		}
		for _, n := range []int{0, 1, 2, 3, 4, 59, 60} {
			for _, m := range []int{0, 1, 2, 3, 4, 59, 60} {
				file := fileOf(t, rows(m, 1))
				if n == m {
					wantCalm(t, "as many rows", []api.Job{rows(n, 1)}, fullRing(), file, "pre")
				} else {
					wantForged(t, "another number of rows", []api.Job{rows(n, 1)}, fullRing(), file, "pre")
				}
				// Without a sealed column nothing speaks for the rows.
				wantCalm(t, "rows of open columns", []api.Job{rows(n, 0)}, fullRing(), fileOf(t, rows(m, 0)), "pre")
			}
		}
		// One row less at either end, and two that change places.
		for _, cells := range [][]any{{6, nil, 7, 8}, {5, 6, nil, 7}, {5, 6, nil, 8, 7}, {5, nil, 6, 7, 8}, {5, 6, nil, 7, 8, nil}} {
			job := smallWith(open, func(job *api.Job) { job.Table = []api.Column{column("id", api.Ints, 1, ints(cells...))} })
			wantForged(t, "other rows", []api.Job{smallWith(open, func(job *api.Job) { job.Table = job.Table[:1] })}, fullRing(), fileOf(t, job), "pre")
		}
	}
}

func TestP10OtherColumns(t *testing.T) {
	null := func(job *api.Job) {
		for c := range job.Table {
			job.Table[c].Cells = repeat(5, ints(nil))
		}
	}
	none := func(job *api.Job) {
		for c := range job.Table {
			job.Table[c].Cells = nil
		}
	}
	for _, open := range []bool{false, true} {
		for _, cells := range []func(job *api.Job){null, none} {
			job := smallWith(open, cells)
			wantCalm(t, "the same columns", []api.Job{job}, fullRing(), fileOf(t, job), "pre")
			for what, turn := range map[string]func(job *api.Job){
				"a sealed column's name":      func(job *api.Job) { job.Table[0].Name = "ie" },
				"an open column's name":       func(job *api.Job) { job.Table[1].Name = "whom" },
				"a shorter name":              func(job *api.Job) { job.Table[2].Name = "wha" },
				"names that change places":    func(job *api.Job) { job.Table[0].Name, job.Table[2].Name = "what", "id" },
				"a sealed column's kind":      func(job *api.Job) { job.Table[0].Kind = api.Texts },
				"an open column's kind":       func(job *api.Job) { job.Table[1].Kind = api.Ints },
				"the last column's kind":      func(job *api.Job) { job.Table[2].Kind = api.Ints },
				"a key":                       func(job *api.Job) { job.Table[0].Key = 2 },
				"the footer's key":            func(job *api.Job) { job.Table[2].Key = 3 },
				"a column that is open now":   func(job *api.Job) { job.Table[0].Key = 0 },
				"a column that is sealed now": func(job *api.Job) { job.Table[1].Key = 1 },
				"nothing is sealed":           func(job *api.Job) { job.Table[0].Key, job.Table[2].Key = 0, 0 },
				"columns that change places":  func(job *api.Job) { slices.Reverse(job.Table) },
				"the open one comes first":    func(job *api.Job) { job.Table[0], job.Table[1] = job.Table[1], job.Table[0] },
				"the last two change places":  func(job *api.Job) { job.Table[1], job.Table[2] = job.Table[2], job.Table[1] },
				"without the first column":    func(job *api.Job) { job.Table = job.Table[1:] },
				"without the open column":     func(job *api.Job) { job.Table = slices.Delete(job.Table, 1, 2) },
				"without the last column":     func(job *api.Job) { job.Table = job.Table[:2] },
				"the open column alone":       func(job *api.Job) { job.Table = job.Table[1:2] },
				"one more that is open":       func(job *api.Job) { job.Table = append(job.Table, column("x", 0, 0, job.Table[0].Cells)) },
				"one more that is sealed":     func(job *api.Job) { job.Table = append(job.Table, column("x", 0, 1, job.Table[0].Cells)) },
				"one more at the beginning": func(job *api.Job) {
					job.Table = append([]api.Column{column("x", 1, 0, job.Table[0].Cells)}, job.Table...)
				},
				"one more, and three are other": func(job *api.Job) {
					job.Table = append(slices.Clone(job.Table[:1]), job.Table...)
					job.Table[0].Name = "x"
				},
			} {
				other := smallWith(open, func(job *api.Job) { cells(job); turn(job) })
				wantForged(t, what, []api.Job{job}, fullRing(), fileOf(t, other), "pre")
				wantForged(t, what, []api.Job{other}, fullRing(), fileOf(t, job), "pre")
				wantCalm(t, what, []api.Job{other}, fullRing(), fileOf(t, other), "pre")
				wantForged(t, what, []api.Job{under("prf", other), job, under("", other)}, fullRing(), fileOf(t, other), "pre")
			}
		}
	}
}

// A job takes its columns' keys, so that a Locked column is never a job's.
func TestP10LockedColumns(t *testing.T) {
	for _, open := range []bool{false, true} {
		job := small(open)
		file := fileOf(t, job)
		openOnes := smallWith(open, func(job *api.Job) { job.Table[0].Key, job.Table[2].Key = 0, 0 })
		for _, gone := range [][]int{{1}, {2}, {1, 2}, {1, 2, 4, 5, 6, 7, 8, 9}} {
			ring := without(gone...)
			wantNoJobs(t, "the job takes more keys", []api.Job{job}, ring, file, "pre")
			wantForged(t, "some columns are Locked", nil, ring, file, "pre")
			wantForged(t, "some columns are Locked", []api.Job{openOnes}, ring, file, "pre")
			wantForged(t, "some columns are Locked", []api.Job{under("prf", openOnes)}, ring, file, "pre")
			wantCalm(t, "the open columns alone", []api.Job{openOnes}, ring, fileOf(t, openOnes), "pre")
		}
		for _, ring := range [][]api.Key{without(3), without(1, 3), nil} {
			wantCalm(t, "without the footer's key", nil, ring, file, "pre")
			wantNoJobs(t, "without the footer's key", []api.Job{job}, ring, file, "pre")
		}
		// Jobs that take some keys, and files that were written with others.
		some := smallWith(open, func(job *api.Job) { job.Table[2].Key = 1 })
		wantForged(t, "a Locked column that the job seals otherwise", []api.Job{some}, without(2), file, "pre")
	}
}

// Broken columns say nothing, neither for a job nor against it.
func TestP10BrokenColumns(t *testing.T) {
	for _, open := range []bool{false, true} {
		job := small(open)
		otherID := smallWith(open, func(job *api.Job) { job.Table[0].Cells[1].Int = 77 })
		otherWhat := smallWith(open, func(job *api.Job) { job.Table[2].Cells[1].Text = "B" })
		otherName := smallWith(open, func(job *api.Job) { job.Table[1].Name = "whom" })
		for _, at := range spotsOf(draftOf(job, fullRing())) {
			file := drafted(open, func(d *referenceDraft) { d.at(at).plain += "x" })
			wantCalm(t, "a Broken column", []api.Job{job}, fullRing(), file, "pre")
			wantForged(t, "a Broken column, no job", nil, fullRing(), file, "pre")
			wantForged(t, "a Broken column, other names", []api.Job{otherName}, fullRing(), file, "pre")
			for c, other := range map[int]api.Job{0: otherID, 2: otherWhat} {
				if at.chunk%3 == c {
					wantCalm(t, "the Broken column is another", []api.Job{other}, fullRing(), file, "pre")
				} else {
					wantForged(t, "a Broken column, and another one", []api.Job{other}, fullRing(), file, "pre")
				}
			}
			// A column that is Got and strange, beside a Broken one that is too.
			d := draftOf(otherWhat, fullRing())
			d.at(at).raw = rawSealed("some text")
			if at.chunk%3 == 1 {
				d.at(at).raw = "\x03\x00xyz"
			}
			if at.chunk%3 == 2 {
				wantCalm(t, "just the Broken one is another", []api.Job{job}, fullRing(), d.file(), "pre")
			} else {
				wantForged(t, "strange, beside a Broken one", []api.Job{job}, fullRing(), d.file(), "pre")
			}
		}
		all := drafted(open, func(d *referenceDraft) {
			for _, at := range []spot{{0, 0}, {1, 0}, {2, 0}} {
				d.at(at).plain = "no page"
			}
		})
		wantCalm(t, "all columns are Broken", []api.Job{otherID}, fullRing(), all, "pre")
		wantForged(t, "all columns are Broken, no job", nil, fullRing(), all, "pre")
		wantForged(t, "all columns are Broken, other names", []api.Job{otherName}, fullRing(), all, "pre")
		// With a wrong secret in the ring nothing was sealed as the file has it.
		ring := append(without(1), api.Key{Number: 1, Secret: "another."})
		wantCalm(t, "a wrong secret", []api.Job{job}, ring, fileOf(t, job), "pre")
		wantForged(t, "a wrong secret, and another column", []api.Job{otherWhat}, ring, fileOf(t, job), "pre")
		ring = append(without(3), api.Key{Number: 3, Secret: "another."})
		wantCalm(t, "a wrong secret of the footer", []api.Job{otherWhat}, ring, fileOf(t, job), "pre")
	}
}

// Just what is opened is given away: of a Broken column nothing, be it ever
// so strange, nor of an open one.
func TestP10TheStrangeColumnThatIsGot(t *testing.T) {
	for _, open := range []bool{false, true} {
		job := sealedJob(open)
		for got := range 4 {
			d := draftOf(job, fullRing())
			for c := range 4 {
				// Of each column the page of the first row is a strange one, as
				// long as the job's.
				cells := slices.Clone(job.Table[c].Cells[:2])
				cells[0] = api.Cell{Int: 9}
				if job.Table[c].Kind == api.Texts {
					cells[0] = api.Cell{Text: "y"}
				}
				d.at(spot{c, 0}).plain = referencePage(job.Table[c].Kind, cells[:1])
				d.at(spot{c, 2}).plain = referenceMeta(job.Table[c].Kind, cells)
				if c != got {
					last := d.at(spot{4 + c, 0})
					last.plain = touch(last.plain, 0, 2)
				}
			}
			given := wantForged(t, "one strange column that is Got", []api.Job{job}, fullRing(), d.file(), "pre")
			if given.Extra != "\x03preP"+referenceTwo(0, got, 0) && given.Extra != "\x03preM"+referenceTwo(0, got, 0) {
				t.Errorf("P10: for the column %d is given away %q", got, given)
			}
		}
	}
}

func TestP10EightJobsAndNine(t *testing.T) {
	job := small(false)
	file := fileOf(t, job)
	var jobs []api.Job
	for n := range 12 {
		wantCount := wantForged
		if n > 8 {
			wantCount = func(t *testing.T, what string, jobs []api.Job, ring []api.Key, file, prefix string) api.Sealed {
				wantNoJobs(t, what, jobs, ring, file, prefix)
				return api.Sealed{}
			}
		}
		wantCount(t, fmt.Sprint(n, " jobs"), jobs, fullRing(), file, "pre")
		jobs = append(jobs, under(string(rune('a'+n)), job))
		// The job whose file it is, at each place among the others.
		for at := range jobs {
			among := slices.Clone(jobs)
			among[at] = job
			if n < 8 {
				wantCalm(t, fmt.Sprint(n+1, " jobs"), among, fullRing(), file, "pre")
			} else {
				wantNoJobs(t, fmt.Sprint(n+1, " jobs"), among, fullRing(), file, "pre")
			}
		}
	}
	wantNoJobs(t, "jobs without end", make([]api.Job, 1000000), fullRing(), file, "pre")
}

func TestP10JobsThatCannotBe(t *testing.T) {
	for _, open := range []bool{false, true} {
		file := fileOf(t, small(open))
		for what, turn := range map[string]func(job *api.Job){
			"nothing":              func(job *api.Job) { *job = api.Job{} },
			"no columns":           func(job *api.Job) { job.Table = nil },
			"a name twice":         func(job *api.Job) { job.Table[1].Name = "id" },
			"a cell of no kind":    func(job *api.Job) { job.Table[1].Cells[4].Int = 1 },
			"a row less":           func(job *api.Job) { job.Table[2].Cells = job.Table[2].Cells[:4] },
			"a kind":               func(job *api.Job) { job.Table[0].Kind = 2 },
			"a key":                func(job *api.Job) { job.Table[0].Key = 10 },
			"no groups":            func(job *api.Job) { job.Plan.Group = 0 },
			"long pages":           func(job *api.Job) { job.Plan.Page = 61 },
			"a foot":               func(job *api.Job) { job.Plan.Foot = 0 },
			"a long prefix":        func(job *api.Job) { job.Prefix = strings.Repeat("p", 21) },
			"a very long prefix":   func(job *api.Job) { job.Prefix = steps(9000000, 1) },
			"a draw":               func(job *api.Job) { job.Draw = 65536 },
			"another draw":         func(job *api.Job) { job.Draw = -1 },
			"a prefix that is one": func(job *api.Job) { job.Prefix = "b" },
			"a prefix of nothing":  func(job *api.Job) { job.Prefix = "" },
		} {
			for at := range 4 {
				jobs := []api.Job{under("b", small(open)), under("", small(open)), under("c", small(open))}
				jobs = slices.Insert(jobs, at, smallWith(open, turn))
				wantNoJobs(t, what, jobs, fullRing(), file, "pre")
				wantNoJobs(t, what, jobs, fullRing(), "no file", "pre")
			}
		}
		for number := range 4 {
			gone := without(number + 1)
			jobs := []api.Job{under("b", small(open)), small(open)}
			if number < 3 {
				wantNoJobs(t, "a key that is not in the ring", jobs, gone, file, "pre")
				continue
			}
			wantCalm(t, "without a key that is not asked for", jobs, gone, file, "pre")
		}
		for _, ring := range [][]api.Key{nil, {{}}, append(fullRing(), fullRing()[0]), append(fullRing(), api.Key{Number: 10, Secret: "secret-0"}), append(without(9), api.Key{Number: 9, Secret: "secret"})} {
			wantNoJobs(t, "a ring that is none", []api.Job{small(open)}, ring, file, "pre")
			wantNoForgery(t, "a ring that is none, no jobs", nil, ring, file, "pre", api.ErrCalm)
		}
	}
}

func TestP10TwoJobsOfOnePrefix(t *testing.T) {
	for _, prefix := range []string{"", "p", "pre", strings.Repeat("p", 20)} {
		for n := 2; n <= 8; n++ {
			for one := range n {
				for other := range one {
					var jobs []api.Job
					for i := range n {
						jobs = append(jobs, under("job "+string(rune('a'+i)), goodJob()))
					}
					file := fileOf(t, under(prefix, small(false)))
					jobs[other].Prefix = prefix
					wantForged(t, "jobs of different prefixes", jobs, fullRing(), file, prefix)
					jobs[one] = under(prefix, small(false))
					wantNoJobs(t, "two jobs of one prefix", jobs, fullRing(), file, prefix)
				}
			}
		}
	}
	twice := []api.Job{small(false), small(false)}
	wantNoJobs(t, "one job twice", twice, fullRing(), fileOf(t, small(false)), "pre")
	wantNoJobs(t, "one job twice, another file", twice, fullRing(), fileOf(t, goodJob()), "")
}

// readErrors are files, prefixes and rings with which Read answers an error.
func readErrors(t *testing.T, open bool) map[string]struct {
	file, prefix string
	ring         []api.Key
} {
	file := fileOf(t, under("read", small(open)))
	sign := drafted(open, func(d *referenceDraft) {
		d.prefix = "read"
		part := d.part
		d.part = func(footer string) []referenceModule {
			modules := part(footer)
			modules[len(modules)-1].key = 4
			return modules
		}
	})
	return map[string]struct {
		file, prefix string
		ring         []api.Key
	}{
		"nothing":                      {"", "read", fullRing()},
		"no file":                      {"CF", "read", fullRing()},
		"a byte less":                  {file[:len(file)-1], "read", fullRing()},
		"a byte more":                  {file + "F", "read", fullRing()},
		"another mode":                 {touch(file, 2, 'E'^'O'^file[2]), "read", fullRing()},
		"another Foot":                 {touch(file, 3, 4), "read", fullRing()},
		"too long":                     {"CFE\x03" + strings.Repeat("x", 65000) + file, "read", fullRing()},
		"another prefix":               {file, "rear", fullRing()},
		"no prefix":                    {file, "", fullRing()},
		"a long prefix":                {file, strings.Repeat("p", 21), fullRing()},
		"a footer of another key":      {sign, "read", fullRing()},
		"a place in the file":          {touch(file, len(file)-4, file[len(file)-4]+1), "read", fullRing()},
		"a ring without unneeded ones": {file[1:], "read", without(4, 5, 6, 7, 8, 9)},
	}
}

func TestP10FilesThatAreNotRead(t *testing.T) {
	for _, open := range []bool{false, true} {
		for what, c := range readErrors(t, open) {
			wantCalm(t, what, nil, c.ring, c.file, c.prefix)
			wantCalm(t, what, []api.Job{small(open)}, c.ring, c.file, c.prefix)
			wantCalm(t, what, []api.Job{small(open), under("read", goodJob()), under("", goodJob())}, c.ring, c.file, c.prefix)
		}
	}
}

// Of both errors the one is answered that P10 names first.
func TestP1ForgedFirstErrorNamed(t *testing.T) {
	many := func(n int) []api.Job {
		var jobs []api.Job
		for i := range n {
			jobs = append(jobs, under(string(rune('a'+i)), goodJob()))
		}
		return jobs
	}
	for _, open := range []bool{false, true} {
		for _, jobs := range [][]api.Job{many(9), {{}}, {small(open), small(open)}, append(many(7), api.Job{}), {smallWith(open, func(job *api.Job) { job.Draw = -1 })}} {
			for what, c := range readErrors(t, open) {
				wantNoJobs(t, what, jobs, c.ring, c.file, c.prefix)
			}
			file := fileOf(t, small(open))
			wantNoJobs(t, "the file itself", jobs, fullRing(), file, "pre")
			wantNoJobs(t, "a forgery", jobs, fullRing(), fileOf(t, under("else", small(open))), "else")
			wantNoJobs(t, "no ring", jobs, []api.Key{{}}, file, "pre")
			wantNoJobs(t, "without the footer's key", jobs, without(3), file, "pre")
		}
		wantNoJobs(t, "a job's key, and the file's", []api.Job{small(open)}, without(3), fileOf(t, small(open)), "pre")
		wantNoJobs(t, "a ring that is none for both", []api.Job{small(open)}, []api.Key{{}}, fileOf(t, small(open)), "pre")
		wantNoForgery(t, "a ring that is none for the file", nil, []api.Key{{}}, fileOf(t, small(open)), "pre", api.ErrCalm)
	}
}

func TestP10GreatFiles(t *testing.T) {
	for _, open := range []bool{false, true} {
		plan := api.Plan{Group: 1, Page: 1, Foot: 9, Open: open}
		var jobs []api.Job
		for n := range 8 {
			jobs = append(jobs, api.Job{Table: numberTable(), Plan: plan, Prefix: fmt.Sprintf("a prefix of %d bytes.", n), Draw: 65535})
		}
		for _, job := range jobs {
			wantCalm(t, "a great file", jobs, fullRing(), fileOf(t, job), job.Prefix)
		}
		// The last page of the last column, of the last job.
		last := jobs[7]
		last.Table = numberTable()
		cell := &last.Table[5].Cells[59]
		cell.Int++
		given := wantForged(t, "a great file, and a cell", jobs, fullRing(), fileOf(t, last), last.Prefix)
		if at := string(referenceText(nil, last.Prefix)); given.Extra != at+"P"+referenceTwo(59, 5, 0) && given.Extra != at+"M"+referenceTwo(59, 5, 0) {
			t.Errorf("P10: for the last cell is given away %q", given)
		}
	}
}

func TestP1ForgedEndsAtAnyBytes(t *testing.T) {
	dice := rand.New(rand.NewSource(8))
	jobs := []api.Job{small(false), under("", small(true))}
	for range 3000 {
		file := make([]byte, dice.Intn(80))
		for i := range file {
			file[i] = byte(dice.Intn(1 + dice.Intn(256)))
		}
		part := referenceTwo(len(file)) + string(file)
		for _, text := range []string{string(file), "CFE\x03" + part + referenceTwo(len(part)) + "CF", "CFO\x03" + part + "\x02\x00noncxx" + referenceTwo(len(part)+8) + "CF"} {
			wantForgedReference(t, nil, fullRing(), text, "")
			wantForgedReference(t, jobs[:dice.Intn(3)], fullRing(), text, "pre")
		}
	}
	for _, file := range []string{strings.Repeat("CF", 32500), strings.Repeat("\xff", 65000), steps(65000, 1), steps(9000000, 7)} {
		wantCalm(t, "long", jobs, fullRing(), file, "")
		wantNoForgery(t, "long", jobs, fullRing(), file, steps(9000000, 1), api.ErrCalm)
	}
	wantNoJobs(t, "a long ring", jobs, make([]api.Key, 3000000), "", "")
	wantNoForgery(t, "a long ring", nil, make([]api.Key, 3000000), "", "", api.ErrCalm)
	long := smallWith(false, func(job *api.Job) { job.Table[0].Cells = make([]api.Cell, 3000000) })
	wantNoJobs(t, "a long table", []api.Job{long}, fullRing(), "", "")
}

func TestP2ForgedLeavesJobsAndRing(t *testing.T) {
	spare := small(true)
	spare.Prefix = "spare"
	behind := api.Key{Number: 1, Secret: "spare"}
	make := func(open bool) ([]api.Job, []api.Key) {
		jobs := roomy(severalJobs(open)[:5], spare)
		for i := range jobs {
			jobs[i] = roomyJob(jobs[i])
		}
		return jobs, roomy(fullRing(), behind)
	}
	for _, open := range []bool{false, true} {
		jobs, ring := make(open)
		before, beforeRing := make(open)
		wantCalm(t, "the file itself", jobs, ring, fileOf(t, small(open)), "pre")
		wantForged(t, "a cell", jobs, ring, fileOf(t, smallWith(open, func(job *api.Job) { job.Table[0].Cells[0].Int = 9 })), "pre")
		wantForged(t, "the spare job's file", jobs, ring, fileOf(t, spare), "spare")
		wantForged(t, "the spare room of a table", jobs, ring, fileOf(t, smallWith(open, func(job *api.Job) {
			job.Table = append(job.Table, column("spare", api.Texts, 5, texts("a", "b", "c", "d", "e")))
		})), "pre")
		wantNoJobs(t, "a job twice", jobs[:7], ring, "", "")
		wantNoJobs(t, "a ring that is none", jobs, ring[:10], "", "")
		same := slices.EqualFunc(jobs[:cap(jobs)], before[:cap(before)], func(a, b api.Job) bool {
			return sameColumns(a.Table, b.Table) && a.Plan == b.Plan && a.Prefix == b.Prefix && a.Draw == b.Draw
		})
		if !same || !slices.Equal(ring[:cap(ring)], beforeRing[:cap(beforeRing)]) {
			t.Errorf("P2: Forged wrote into its jobs or its ring")
		}
	}
}

// Texts whose bytes are written over behind the call show what it has kept.
func TestP2ForgedKeepsNothingOfItsTexts(t *testing.T) {
	for _, open := range []bool{false, true} {
		other := smallWith(open, func(job *api.Job) { job.Table[2].Cells[3].Text = "D" })
		for _, written := range []api.Job{other, smallWith(open, func(job *api.Job) { job.Plan.Foot = 4 })} {
			fileRoom, file := aliased(fileOf(t, written))
			prefixRoom, prefix := aliased("pre")
			nameRoom, name := aliased("who")
			cellRoom, cell := aliased("yz")
			rooms := [][]byte{fileRoom, prefixRoom, nameRoom, cellRoom}
			var ring []api.Key
			for _, key := range fullRing() {
				room, secret := aliased(key.Secret)
				rooms = append(rooms, room)
				ring = append(ring, api.Key{Number: key.Number, Secret: secret})
			}
			var before []string
			for _, room := range rooms {
				before = append(before, string(room[:cap(room)]))
			}
			job := smallWith(open, func(job *api.Job) {
				job.Prefix, job.Table[1].Name, job.Table[1].Cells[2].Text = prefix, name, cell
				job.Table[0].Cells[0].Int = 55
			})
			for _, jobs := range [][]api.Job{nil, {job}} {
				want := wantForged(t, "texts of the caller's", jobs, fullRing(), fileOf(t, written), "pre")
				given, e := Forged(jobs, ring, file, prefix)
				for i, room := range rooms {
					if string(room[:cap(room)]) != before[i] {
						t.Errorf("P2: Forged wrote into %q", before[i])
					}
					clear(room)
				}
				if e != api.OK || given != want {
					t.Errorf("P2: the answer lives in what was handed in: %q, %d, want %q", given, e, want)
				}
				for i, room := range rooms {
					copy(room, before[i])
				}
			}
		}
	}
}

func TestP2ForgedHangsOnItsArgumentsAlone(t *testing.T) {
	jobs := severalJobs(true)
	forgery := fileOf(t, smallWith(true, func(job *api.Job) { job.Table[2].Cells[3].Text = "D" }))
	want := wantForged(t, "first", jobs, fullRing(), forgery, "pre")
	for range 3 {
		wantForged(t, "no jobs", nil, fullRing(), forgery, "pre")
		wantCalm(t, "the file itself", jobs, fullRing(), fileOf(t, small(true)), "pre")
		wantNoJobs(t, "no keys", jobs, nil, forgery, "pre")
		wantCalm(t, "no file", jobs, fullRing(), forgery[1:], "pre")
		if given := wantForged(t, "again", jobs, fullRing(), forgery, "pre"); given != want {
			t.Errorf("P2: called again, Forged gives %q away, and not %q", given, want)
		}
	}
}
