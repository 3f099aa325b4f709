package coffer

import (
	"encoding/binary"
	"strings"

	"coffer/api"
)

// Pages written once more from the document, by the library's means, so that
// the program is held against something other than itself.

func referenceText(out []byte, text string) []byte {
	return append(binary.AppendUvarint(out, uint64(len(text))), text...)
}

// referenceHead is what stands ahead of the way: the count and the runs.
func referenceHead(cells []api.Cell) []byte {
	out := binary.AppendUvarint(nil, uint64(len(cells)))
	pattern := ""
	for _, cell := range cells {
		if cell.Null {
			pattern += "0"
		} else {
			pattern += "1"
		}
	}
	for sign := "1"; pattern != ""; sign = map[string]string{"0": "1", "1": "0"}[sign] {
		rest := strings.TrimLeft(pattern, sign)
		out = binary.AppendUvarint(out, uint64(len(pattern)-len(rest)))
		pattern = rest
	}
	return out
}

// referenceNumbers are the ways 0, 1 and 2.
func referenceNumbers(numbers []int) map[byte][]byte {
	var plain, steps, rows []byte
	for i, n := range numbers {
		plain = binary.LittleEndian.AppendUint64(plain, uint64(n))
		if i == 0 {
			steps = binary.AppendVarint(steps, int64(n))
		} else {
			steps = binary.AppendVarint(steps, int64(n)-int64(numbers[i-1]))
		}
	}
	for i, row := 0, 1; i < len(numbers); i, row = i+1, row+1 {
		if i+1 == len(numbers) || numbers[i+1] != numbers[i] {
			rows = binary.AppendVarint(binary.AppendUvarint(rows, uint64(row)), int64(numbers[i]))
			row = 0
		}
	}
	return map[byte][]byte{0: plain, 1: steps, 2: rows}
}

// referenceTexts are the ways 0, 3 and 4.
func referenceTexts(texts []string) map[byte][]byte {
	var plain, different, places, steps []byte
	place := map[string]int{}
	ahead := ""
	for _, text := range texts {
		plain = referenceText(plain, text)
		if _, known := place[text]; !known {
			place[text] = len(place)
			different = referenceText(different, text)
		}
		places = binary.AppendUvarint(places, uint64(place[text]))
		same := min(len(ahead), len(text))
		for !strings.HasPrefix(text, ahead[:same]) {
			same--
		}
		steps = referenceText(binary.AppendUvarint(steps, uint64(same)), text[same:])
		ahead = text
	}
	dictionary := append(binary.AppendUvarint(nil, uint64(len(place))), different...)
	return map[byte][]byte{0: plain, 3: append(dictionary, places...), 4: steps}
}

// referenceWays are the cells written in every way of the kind; nothing, if
// all of them are null.
func referenceWays(kind int, cells []api.Cell) map[byte]string {
	var numbers []int
	var texts []string
	for _, cell := range cells {
		if !cell.Null {
			numbers, texts = append(numbers, cell.Int), append(texts, cell.Text)
		}
	}
	if len(numbers) == 0 {
		return nil
	}
	ways := referenceNumbers(numbers)
	if kind == api.Texts {
		ways = referenceTexts(texts)
	}
	out := map[byte]string{}
	for number, written := range ways {
		out[number] = string(referenceHead(cells)) + string([]byte{number}) + string(written)
	}
	return out
}

func referencePage(kind int, cells []api.Cell) string {
	ways := referenceWays(kind, cells)
	if len(ways) == 0 {
		return string(referenceHead(cells))
	}
	best := ""
	for number := range byte(5) {
		if page, has := ways[number]; has && (best == "" || len(page) < len(best)) {
			best = page
		}
	}
	return best
}
