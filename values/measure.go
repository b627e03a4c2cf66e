package values

import "gauge/labels"

// Measure is what is told of many values, in a window or in a group.
type Measure int

// They stand in the order in which instructions count them.
const (
	Total Measure = iota
	Peak
	Low
	Size
	Rise // of windows alone
)

// MeasureOf gives what a window's or a group's word asks for.
func MeasureOf(word string) Measure {
	switch word {
	case "total", "sum":
		return Total
	case "peak", "max":
		return Peak
	case "low", "min":
		return Low
	case "size", "count":
		return Size
	}
	return Rise
}

// tally is what must be known of values to tell any Measure of them.
type tally struct {
	count, sum, greatest, least, first, last int
}

func (t tally) with(value int) tally {
	if t.count == 0 {
		return tally{count: 1, sum: value, greatest: value, least: value, first: value, last: value}
	}
	return tally{
		count:    t.count + 1,
		sum:      t.sum + value,
		greatest: max(t.greatest, value),
		least:    min(t.least, value),
		first:    t.first,
		last:     value,
	}
}

func (t tally) tell(measure Measure) int {
	switch measure {
	case Total:
		return cut(t.sum)
	case Peak:
		return t.greatest
	case Low:
		return t.least
	case Size:
		return t.count
	}
	return cut(t.last - t.first)
}

// Over gives what a window says of a range.
func Over(measure Measure, of Range) Vector {
	items := make([]Item, 0, len(of))
	for _, stretch := range of {
		var all tally
		for _, sample := range stretch.Samples {
			all = all.with(sample.Value)
		}
		items = append(items, Item{Labels: stretch.Labels, Value: all.tell(measure)})
	}
	return sortItems(items)
}

// Groups puts values into groups. One is meant to be used for all times, as
// its map is filled anew each time.
type Groups struct {
	byText map[string]group
}

type group struct {
	labels labels.Labels
	all    tally
}

// NewGroups makes Groups.
func NewGroups() *Groups { return &Groups{byText: map[string]group{}} }

// Measure gives what is told of each group of a vector's values. The names
// must be sorted.
func (g *Groups) Measure(measure Measure, names []string, of Vector) Vector {
	clear(g.byText)
	for _, item := range of {
		own := item.Labels.Among(names)
		all := g.byText[own.String()].all
		g.byText[own.String()] = group{labels: own, all: all.with(item.Value)}
	}
	items := make([]Item, 0, len(g.byText))
	for _, one := range g.byText {
		items = append(items, Item{Labels: one.labels, Value: one.all.tell(measure)})
	}
	return sortItems(items)
}
