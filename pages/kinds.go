package pages

import (
	"coffer/api"
	"coffer/wire"
)

// numbers is the codec of pages of the kind Ints.
func numbers() codec[int] {
	return codec[int]{
		ways: []way[int]{
			{0, codec[int].each, codec[int].readEach},
			{1, codec[int].steps, codec[int].readSteps},
			{2, codec[int].rows, codec[int].readRows},
		},
		value:     func(cell api.Cell) int { return cell.Int },
		cell:      func(value int) api.Cell { return api.Cell{Int: value} },
		whole:     wire.Eight,
		readWhole: (*wire.Reader).Eight,
		step:      numberStep,
		readStep:  readNumberStep,
	}
}

// numberStep is Z of how much more the value is; it may wrap round, and
// comes back by wrapping round again.
func numberStep(ahead, value int) string {
	return wire.Signed(value - ahead)
}

func readNumberStep(in *wire.Reader, ahead int) int {
	return ahead + in.Signed()
}

// texts is the codec of pages of the kind Texts.
func texts() codec[string] {
	return codec[string]{
		ways: []way[string]{
			{0, codec[string].each, codec[string].readEach},
			{3, codec[string].places, codec[string].readPlaces},
			{4, codec[string].steps, codec[string].readSteps},
		},
		value:     func(cell api.Cell) string { return cell.Text },
		cell:      func(value string) api.Cell { return api.Cell{Text: value} },
		whole:     wire.Text,
		readWhole: readText,
		step:      textStep,
		readStep:  readTextStep,
	}
}

func readText(in *wire.Reader) string {
	return in.Text(api.MaxText)
}

func textStep(ahead, value string) string {
	same := common(ahead, value)
	return wire.Join(wire.Count(same), wire.Text(value[same:]))
}

func readTextStep(in *wire.Reader, ahead string) string {
	same := in.Count(len(ahead))
	return wire.Join(ahead[:same], in.Text(api.MaxText-same))
}

// common is how many bytes at their beginning two texts have in common.
func common(a, b string) int {
	n := 0
	for n < len(a) && n < len(b) && a[n] == b[n] {
		n++
	}
	return n
}
