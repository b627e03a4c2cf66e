package values

import "testing"

func TestOver(t *testing.T) {
	all := readAll(t, "c{h=b} 1:4 2:-9 3:6 4:1\nc{h=a} 2:7\nc{h=c} 1:1000000000 2:1000000000 3:-1\nc{h=d} 1:-1000000000 2:-1000000000 4:1000000000")
	for word, want := range map[string]Vector{
		"total": {item("a", 7), item("b", 2), item("c", 1000000000), item("d", -1000000000)},
		"peak":  {item("a", 7), item("b", 6), item("c", 1000000000), item("d", 1000000000)},
		"low":   {item("a", 7), item("b", -9), item("c", -1), item("d", -1000000000)},
		"size":  {item("a", 1), item("b", 4), item("c", 3), item("d", 3)},
		"rise":  {item("a", 0), item("b", -3), item("c", -1000000000), item("d", 1000000000)},
	} {
		check(t, word, Over(MeasureOf(word), PickRange(all, selector("c"), 10, 4)), want)
		check(t, word+" of nothing", Over(MeasureOf(word), nil), Vector{})
	}
}

// Sums are worked out whole: what is cut is the sum, not what it grows by.
func TestSumsAreCutAtTheEnd(t *testing.T) {
	all := readAll(t, "c{h=a} 1:1000000000 2:1000000000 3:-1000000000 4:-5")
	check(t, "total", Over(Total, PickRange(all, selector("c"), 10, 4)), Vector{item("a", 999999995)})
	v := Vector{item("a", 1000000000), item("b", 1000000000), item("c", -1000000000), item("d", -5)}
	check(t, "sum", NewGroups().Measure(Total, nil, v), Vector{item("", 999999995)})
}

func TestGroups(t *testing.T) {
	v := Pick(readAll(t, "c{g=1,h=b} 1:4\nc{g=2,h=a} 1:-9\nc{g=1,h=a} 1:6\nc{} 1:5\nc{g=3} 1:2"), selector("c"), 1)
	groups := NewGroups()
	for word, want := range map[string]Vector{
		"sum":   {item("", 7), item("a", -3), item("b", 4)},
		"max":   {item("", 5), item("a", 6), item("b", 4)},
		"min":   {item("", 2), item("a", -9), item("b", 4)},
		"count": {item("", 2), item("a", 2), item("b", 1)},
	} {
		check(t, word, groups.Measure(MeasureOf(word), []string{"h"}, v), want)
		check(t, word+" twice", groups.Measure(MeasureOf(word), []string{"h", "h", "x"}, v), want)
		check(t, word+" of nothing", groups.Measure(MeasureOf(word), []string{"h"}, nil), Vector{})
	}
}

// What was told stays as it is when the groups are used again.
func TestGroupsUsedAgain(t *testing.T) {
	groups := NewGroups()
	first := groups.Measure(Total, []string{"h"}, Vector{item("a", 1), item("b", 2)})
	second := groups.Measure(Total, []string{"h"}, Vector{item("b", 5), item("c", 6)})
	check(t, "first", first, Vector{item("a", 1), item("b", 2)})
	check(t, "second", second, Vector{item("b", 5), item("c", 6)})
}
