package coffer

import (
	"coffer/api"
)

// What P10 asks for, told once more from the document: which error there is,
// and all sealed modules that are opened when a file is read.

func referenceJobsCanBe(jobs []api.Job, ring []api.Key) bool {
	prefixes := map[string]bool{}
	for _, job := range jobs {
		prefixes[job.Prefix] = true
		if _, _, e := Write(job, ring); e != api.OK {
			return false
		}
	}
	return len(jobs) <= 8 && len(prefixes) == len(jobs)
}

// referenceIsWritten: what no key speaks for is taken as it was found.
func referenceIsWritten(job api.Job, ring []api.Key, found []api.Found) bool {
	want := foundOf(job, ring)
	for c := range min(len(want), len(found)) {
		if found[c].State != api.Got || found[c].Key == 0 {
			want[c].State, want[c].Cells = found[c].State, found[c].Cells
		}
	}
	return sameFound(want, found)
}

func referenceForgedError(jobs []api.Job, ring []api.Key, file, prefix string) api.Errno {
	if !referenceJobsCanBe(jobs, ring) {
		return api.ErrJobs
	}
	found, e := referenceRead(file, prefix, ring, false)
	if e != api.OK {
		return api.ErrCalm
	}
	for _, job := range jobs {
		if job.Prefix == prefix && referenceIsWritten(job, ring, found) {
			return api.ErrCalm
		}
	}
	return api.OK
}

// referenceOpened is for files that are read without an error.
func referenceOpened(file, prefix string, ring []api.Key) []api.Sealed {
	secrets, _ := referenceRing(ring)
	form, _ := referenceReadForm(file)
	head := string(referenceText(nil, prefix))
	foot := api.Sealed{Secret: secrets[form.foot], Nonce: form.nonce, Extra: head + "S" + referenceTwo(0, 0, 0) + form.footer, Body: form.body}
	if form.mode == 'E' {
		foot.Extra = head + "F" + referenceTwo(0, 0, 0)
		form.footer, _ = referenceOpen(foot.Secret, foot.Nonce, foot.Extra, foot.Body)
	}
	job, places, _ := referenceReadFooter(form.footer, form.foot)
	pieces, _ := referenceWalk(job, places, form.ahead)
	opened := []api.Sealed{foot}
	for c, found := range referenceFound(job, secrets, prefix, pieces) {
		if found.State != api.Got || found.Key == 0 {
			continue
		}
		for _, piece := range pieces[c] {
			opened = append(opened, api.Sealed{Secret: secrets[found.Key], Nonce: piece.nonce, Extra: head + piece.place, Body: piece.text})
		}
	}
	return opened
}
