package pages

import (
	"slices"

	"coffer/api"
	"coffer/wire"
)

// codec: how values of one type stand in cells and in pages.
type codec[V comparable] struct {
	ways []way[V] // by their numbers, the lowest first

	value func(cell api.Cell) V
	cell  func(value V) api.Cell

	whole     func(value V) string
	readWhole func(in *wire.Reader) V

	// A step leads from the value ahead to the next one. To the first one
	// it leads from the type's zero value.
	step     func(ahead, value V) string
	readStep func(in *wire.Reader, ahead V) V
}

// way: one way of writing values, and of reading so many of them again.
type way[V comparable] struct {
	number byte
	write  func(c codec[V], values []V) string
	read   func(c codec[V], in *wire.Reader, count int) []V
}

func (c codec[V]) page(cells []api.Cell) string {
	var values []V
	for _, cell := range cells {
		if !cell.Null {
			values = append(values, c.value(cell))
		}
	}
	if len(values) == 0 {
		return runs(cells)
	}
	return wire.Join(runs(cells), c.shortest(values))
}

// shortest is what the shortest way writes, its number ahead.
func (c codec[V]) shortest(values []V) string {
	best := ""
	for _, w := range c.ways {
		written := wire.Join(wire.Byte(w.number), w.write(c, values))
		if best == "" || len(written) < len(best) {
			best = written
		}
	}
	return best
}

func (c codec[V]) cells(page string) []api.Cell {
	in := wire.NewReader(page)
	nulls := readRuns(in)
	values := c.values(in, nulls)
	cells := make([]api.Cell, 0, len(nulls))
	for _, null := range nulls {
		if null {
			cells = append(cells, api.Cell{Null: true})
			continue
		}
		cells = append(cells, c.cell(values[0]))
		values = values[1:]
	}
	// The same cells can be written in many ways, and only one is a page.
	wire.Need(c.page(cells) == page)
	return cells
}

// values reads the values of the cells that are not null.
func (c codec[V]) values(in *wire.Reader, nulls []bool) []V {
	count := 0
	for _, null := range nulls {
		if !null {
			count++
		}
	}
	if count == 0 {
		return nil
	}
	number := in.Byte()
	at := slices.IndexFunc(c.ways, func(w way[V]) bool { return w.number == number })
	wire.Need(at >= 0)
	return c.ways[at].read(c, in, count)
}

// each: every value whole.
func (c codec[V]) each(values []V) string {
	var parts []string
	for _, value := range values {
		parts = append(parts, c.whole(value))
	}
	return wire.Join(parts...)
}

func (c codec[V]) readEach(in *wire.Reader, count int) []V {
	var values []V
	for range count {
		values = append(values, c.readWhole(in))
	}
	return values
}

// steps: of every value the step from the one ahead.
func (c codec[V]) steps(values []V) string {
	var parts []string
	var ahead V
	for _, value := range values {
		parts = append(parts, c.step(ahead, value))
		ahead = value
	}
	return wire.Join(parts...)
}

func (c codec[V]) readSteps(in *wire.Reader, count int) []V {
	var values []V
	var ahead V
	for range count {
		ahead = c.readStep(in, ahead)
		values = append(values, ahead)
	}
	return values
}

// rows: of every row of equal values how many they are, and the step to
// them from the zero value (of numbers, Z of them).
func (c codec[V]) rows(values []V) string {
	var parts []string
	var zero V
	for at := 0; at < len(values); {
		end := at
		for end < len(values) && values[end] == values[at] {
			end++
		}
		parts = append(parts, wire.Count(end-at), c.step(zero, values[at]))
		at = end
	}
	return wire.Join(parts...)
}

func (c codec[V]) readRows(in *wire.Reader, count int) []V {
	var values []V
	var zero V
	for len(values) < count {
		row := in.Count(count - len(values))
		wire.Need(row > 0)
		value := c.readStep(in, zero)
		values = append(values, slices.Repeat([]V{value}, row)...)
	}
	return values
}

// places: the different values, and of every value its place among them.
func (c codec[V]) places(values []V) string {
	var different []V
	var places []string
	for _, value := range values {
		place := slices.Index(different, value)
		if place < 0 {
			place = len(different)
			different = append(different, value)
		}
		places = append(places, wire.Count(place))
	}
	return wire.Join(wire.Count(len(different)), c.each(different), wire.Join(places...))
}

func (c codec[V]) readPlaces(in *wire.Reader, count int) []V {
	different := c.readEach(in, in.Count(count))
	wire.Need(len(different) > 0)
	var values []V
	for range count {
		values = append(values, different[in.Count(len(different)-1)])
	}
	return values
}
