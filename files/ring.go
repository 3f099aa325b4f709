package files

import "coffer/api"

// Secret is the secret of the key with this number, if the ring has it.
func Secret(ring []api.Key, number int) (string, bool) {
	for _, key := range ring {
		if key.Number == number {
			return key.Secret, true
		}
	}
	return "", false
}

// HasKeys tells whether the ring has all keys that the job's file needs.
func HasKeys(job api.Job, ring []api.Key) bool {
	for _, column := range job.Table {
		if _, has := Secret(ring, column.Key); !has && column.Key != 0 {
			return false
		}
	}
	_, has := Secret(ring, job.Plan.Foot)
	return has
}
