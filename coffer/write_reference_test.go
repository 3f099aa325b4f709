package coffer

import (
	"encoding/binary"
	"slices"

	"coffer/api"
)

// Files written once more from the document, by the library's means, so that
// the program is held against something other than itself: first all modules
// are listed, then they are laid one behind the other.

type referenceModule struct {
	key          int
	place, plain string
}

func referenceTwo(numbers ...int) string {
	var out []byte
	for _, n := range numbers {
		out = binary.LittleEndian.AppendUint16(out, uint16(n))
	}
	return string(out)
}

func referenceSum(text string) int {
	sum := uint32(1)
	for _, b := range []byte(text) {
		sum = (sum*263 + uint32(b) + 1) % 65521
	}
	return int(sum)
}

func referenceBody(secret, nonce, extra, plain string) string {
	out := []byte(plain)
	for i := range out {
		out[i] ^= byte(referenceSum("K" + secret + nonce + referenceTwo(i)))
	}
	return string(out) + referenceTwo(referenceSum("T"+secret+nonce+referenceTwo(len(extra))+extra+string(out)))
}

func referenceMeta(kind int, cells []api.Cell) string {
	var numbers []int
	for _, cell := range cells {
		if !cell.Null {
			numbers = append(numbers, cell.Int)
		}
	}
	slices.Sort(numbers)
	out := binary.AppendUvarint(nil, uint64(len(cells)-len(numbers)))
	if kind == api.Texts || len(numbers) == 0 {
		return string(append(out, 0))
	}
	out = binary.AppendVarint(append(out, 1), int64(numbers[0]))
	return string(binary.AppendVarint(out, int64(numbers[len(numbers)-1])))
}

// referenceChunks are the modules of each chunk, in the order of the file.
func referenceChunks(job api.Job) [][]referenceModule {
	var chunks [][]referenceModule
	rows := len(job.Table[0].Cells)
	for g := 0; g*job.Plan.Group < rows; g++ {
		for c, column := range job.Table {
			cells := column.Cells[g*job.Plan.Group:]
			cells = cells[:min(len(cells), job.Plan.Group)]
			last := referenceModule{column.Key, "M" + referenceTwo(g, c, 0), referenceMeta(column.Kind, cells)}
			var chunk []referenceModule
			for p := 0; len(cells) > 0; p++ {
				n := min(len(cells), job.Plan.Page)
				chunk = append(chunk, referenceModule{column.Key, "P" + referenceTwo(g, c, p), referencePage(column.Kind, cells[:n])})
				cells = cells[n:]
			}
			chunks = append(chunks, append(chunk, last))
		}
	}
	return chunks
}

func referenceFooter(job api.Job, places []int) string {
	numbers := []int{len(job.Table[0].Cells), job.Plan.Group, job.Plan.Page, job.Plan.Foot, len(job.Table)}
	var out []byte
	for _, n := range numbers {
		out = binary.AppendUvarint(out, uint64(n))
	}
	for _, column := range job.Table {
		out = append(referenceText(out, column.Name), byte(column.Kind), byte(column.Key))
	}
	for _, place := range places {
		out = binary.AppendUvarint(out, uint64(place))
	}
	return string(out)
}

func referenceWrite(job api.Job, ring []api.Key) (string, []api.Sealed) {
	var sealed []api.Sealed
	lay := func(m referenceModule) string {
		if m.key == 0 {
			return referenceTwo(len(m.plain)) + m.plain
		}
		at := slices.IndexFunc(ring, func(key api.Key) bool { return key.Number == m.key })
		nonce := referenceTwo(job.Draw, len(sealed))
		extra := string(referenceText(nil, job.Prefix)) + m.place
		body := referenceBody(ring[at].Secret, nonce, extra, m.plain)
		sealed = append(sealed, api.Sealed{Secret: ring[at].Secret, Nonce: nonce, Extra: extra, Body: body})
		return referenceTwo(len(body)) + nonce + body
	}
	file := "CFE"
	if job.Plan.Open {
		file = "CFO"
	}
	file += string(rune(job.Plan.Foot))
	var places []int
	for _, chunk := range referenceChunks(job) {
		places = append(places, len(file))
		for _, m := range chunk {
			file += lay(m)
		}
	}
	footer := referenceFooter(job, places)
	part := ""
	if job.Plan.Open {
		part = lay(referenceModule{0, "", footer}) + lay(referenceModule{job.Plan.Foot, "S" + referenceTwo(0, 0, 0) + footer, ""})
	} else {
		part = lay(referenceModule{job.Plan.Foot, "F" + referenceTwo(0, 0, 0), footer})
	}
	return file + part + referenceTwo(len(part)) + "CF", sealed
}
