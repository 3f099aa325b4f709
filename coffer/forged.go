package coffer

import (
	"slices"

	"coffer/api"
	"coffer/files"
)

// sealJobs tells all that Write tells as sealed for the jobs.
func sealJobs(jobs []api.Job, ring []api.Key) ([]api.Sealed, api.Errno) {
	if len(jobs) > api.MaxJobs || shareAPrefix(jobs) {
		return nil, api.ErrJobs
	}
	var all []api.Sealed
	for _, job := range jobs {
		_, sealed, e := Write(job, ring)
		if e != api.OK {
			return nil, api.ErrJobs
		}
		all = append(all, sealed...)
	}
	return all, api.OK
}

func shareAPrefix(jobs []api.Job) bool {
	for i, job := range jobs {
		if slices.ContainsFunc(jobs[:i], hasPrefix(job.Prefix)) {
			return true
		}
	}
	return false
}

func hasPrefix(prefix string) func(job api.Job) bool {
	return func(job api.Job) bool { return job.Prefix == prefix }
}

// isWritten tells whether what was found is the table of the job with this
// prefix, as far as keys speak for it.
func isWritten(found []api.Found, prefix string, jobs []api.Job) bool {
	at := slices.IndexFunc(jobs, hasPrefix(prefix))
	return at >= 0 && slices.EqualFunc(found, jobs[at].Table, isColumn)
}

func isColumn(found api.Found, column api.Column) bool {
	if found.Name != column.Name || found.Kind != column.Kind || found.Key != column.Key {
		return false
	}
	return !isProven(found) || slices.Equal(found.Cells, column.Cells)
}

// isProven: anyone may write into an open column, so it proves nothing.
func isProven(found api.Found) bool {
	return found.Key != 0 && found.State == api.Got
}

// openedSeals are the sealed modules of which Read makes use: one always, that
// of the footer, and those of the columns that are proven.
func openedSeals(sheet files.Sheet, found []api.Found, prefix string, ring []api.Key) []api.Sealed {
	all := []api.Sealed{sheet.SealedFoot(ring, prefix)}
	for c, column := range found {
		if isProven(column) {
			all = append(all, sheet.SealedColumn(c, ring, prefix)...)
		}
	}
	return all
}

// findStrange is the first of the seals that is not known. If all were known,
// the footer and the cells would be those of the job with this prefix, so
// there is one wherever there is something to give away.
func findStrange(seals, known []api.Sealed) (api.Sealed, api.Errno) {
	for _, one := range seals {
		if !slices.Contains(known, one) {
			return one, api.OK
		}
	}
	return api.Sealed{}, api.ErrCalm
}
