package coffer

import (
	"encoding/binary"
	"slices"

	"coffer/api"
)

// Files written once more from the document, by the library's means, so that
// the program is held against something other than itself: first all modules
// are listed, then they are laid one behind the other.

// referenceModule: if it has a text as it stands in the file, the others
// of its parts are not looked at.
type referenceModule struct {
	key          int
	place, plain string
	raw          string
}

func referenceTwo(numbers ...int) string {
	var out []byte
	for _, n := range numbers {
		out = binary.LittleEndian.AppendUint16(out, uint16(n))
	}
	return string(out)
}

func referenceSum(text string) int {
	sum := uint32(1)
	for _, b := range []byte(text) {
		sum = (sum*263 + uint32(b) + 1) % 65521
	}
	return int(sum)
}

func referenceBody(secret, nonce, extra, plain string) string {
	out := []byte(plain)
	for i := range out {
		out[i] ^= byte(referenceSum("K" + secret + nonce + referenceTwo(i)))
	}
	return string(out) + referenceTwo(referenceSum("T"+secret+nonce+referenceTwo(len(extra))+extra+string(out)))
}

func referenceMeta(kind int, cells []api.Cell) string {
	var numbers []int
	for _, cell := range cells {
		if !cell.Null {
			numbers = append(numbers, cell.Int)
		}
	}
	slices.Sort(numbers)
	out := binary.AppendUvarint(nil, uint64(len(cells)-len(numbers)))
	if kind == api.Texts || len(numbers) == 0 {
		return string(append(out, 0))
	}
	out = binary.AppendVarint(append(out, 1), int64(numbers[0]))
	return string(binary.AppendVarint(out, int64(numbers[len(numbers)-1])))
}

// referenceChunks are the modules of each chunk, in the order of the file.
func referenceChunks(job api.Job) [][]referenceModule {
	var chunks [][]referenceModule
	rows := len(job.Table[0].Cells)
	for g := 0; g*job.Plan.Group < rows; g++ {
		for c, column := range job.Table {
			cells := column.Cells[g*job.Plan.Group:]
			cells = cells[:min(len(cells), job.Plan.Group)]
			last := referenceModule{key: column.Key, place: "M" + referenceTwo(g, c, 0), plain: referenceMeta(column.Kind, cells)}
			var chunk []referenceModule
			for p := 0; len(cells) > 0; p++ {
				n := min(len(cells), job.Plan.Page)
				chunk = append(chunk, referenceModule{key: column.Key, place: "P" + referenceTwo(g, c, p), plain: referencePage(column.Kind, cells[:n])})
				cells = cells[n:]
			}
			chunks = append(chunks, append(chunk, last))
		}
	}
	return chunks
}

func referenceFooter(job api.Job, places []int) string {
	numbers := []int{len(job.Table[0].Cells), job.Plan.Group, job.Plan.Page, job.Plan.Foot, len(job.Table)}
	var out []byte
	for _, n := range numbers {
		out = binary.AppendUvarint(out, uint64(n))
	}
	for _, column := range job.Table {
		out = append(referenceText(out, column.Name), byte(column.Kind), byte(column.Key))
	}
	for _, place := range places {
		out = binary.AppendUvarint(out, uint64(place))
	}
	return string(out)
}

// referenceDraft: a file in its parts, which a test may turn ahead of its
// being laid out.
type referenceDraft struct {
	prefix string
	draw   int
	ring   []api.Key
	head   string
	chunks [][]referenceModule
	footer func(places []int) string
	part   func(footer string) []referenceModule
	sealed []api.Sealed
}

func draftOf(job api.Job, ring []api.Key) *referenceDraft {
	d := &referenceDraft{prefix: job.Prefix, draw: job.Draw, ring: ring, chunks: referenceChunks(job)}
	foot := job.Plan.Foot
	d.footer = func(places []int) string { return referenceFooter(job, places) }
	if job.Plan.Open {
		d.head = "CFO" + string(rune(foot))
		d.part = func(footer string) []referenceModule {
			return []referenceModule{{plain: footer}, {key: foot, place: "S" + referenceTwo(0, 0, 0) + footer}}
		}
	} else {
		d.head = "CFE" + string(rune(foot))
		d.part = func(footer string) []referenceModule {
			return []referenceModule{{key: foot, place: "F" + referenceTwo(0, 0, 0), plain: footer}}
		}
	}
	return d
}

// lay is the module as it is written down.
func (d *referenceDraft) lay(m referenceModule) string {
	if m.raw != "" {
		return m.raw
	}
	if m.key == 0 {
		return referenceTwo(len(m.plain)) + m.plain
	}
	at := slices.IndexFunc(d.ring, func(key api.Key) bool { return key.Number == m.key })
	nonce := referenceTwo(d.draw, len(d.sealed))
	extra := string(referenceText(nil, d.prefix)) + m.place
	body := referenceBody(d.ring[at].Secret, nonce, extra, m.plain)
	d.sealed = append(d.sealed, api.Sealed{Secret: d.ring[at].Secret, Nonce: nonce, Extra: extra, Body: body})
	return referenceTwo(len(body)) + nonce + body
}

func (d *referenceDraft) file() string {
	file := d.head
	d.sealed = nil
	var places []int
	for _, chunk := range d.chunks {
		places = append(places, len(file))
		for _, m := range chunk {
			file += d.lay(m)
		}
	}
	part := ""
	for _, m := range d.part(d.footer(places)) {
		part += d.lay(m)
	}
	return file + part + referenceTwo(len(part)) + "CF"
}

func referenceWrite(job api.Job, ring []api.Key) (string, []api.Sealed) {
	d := draftOf(job, ring)
	return d.file(), d.sealed
}
