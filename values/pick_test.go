package values

import (
	"slices"
	"testing"

	"gauge/series"
	"gauge/syntax"
)

func readAll(t *testing.T, store string) []series.Series {
	t.Helper()
	all, err := series.Read(store)
	if err != nil {
		t.Fatal(err)
	}
	return all
}

func selector(name string, conditions ...syntax.Condition) syntax.Selector {
	return syntax.Selector{Name: name, Conditions: conditions}
}

func TestPickByTime(t *testing.T) {
	all := readAll(t, "c{} 5:1 7:2")
	for time, want := range map[int]Vector{
		-1000000: nil, 4: nil, 5: {item("", 1)}, 6: {item("", 1)}, 7: {item("", 2)}, 16: {item("", 2)}, 17: nil, 1000000: nil,
	} {
		check(t, "c", Pick(all, selector("c"), time), want)
	}
}

func TestPickByConditions(t *testing.T) {
	all := readAll(t, "c{h=b} 1:2\nc{h=a} 1:1\nd{h=a} 1:4\nc{} 1:3\nc{h=c}")
	is := func(name, text string) syntax.Condition { return syntax.Condition{Name: name, Text: text} }
	not := func(name, text string) syntax.Condition { return syntax.Condition{Name: name, Text: text, Not: true} }
	for _, c := range []struct {
		from syntax.Selector
		want Vector
	}{
		{selector("c"), Vector{item("", 3), item("a", 1), item("b", 2)}},
		{selector("e"), nil},
		{selector("c", is("h", "a")), Vector{item("a", 1)}},
		{selector("c", not("h", "a")), Vector{item("", 3), item("b", 2)}},
		{selector("c", is("h", "")), Vector{item("", 3)}},
		{selector("c", not("h", "")), Vector{item("a", 1), item("b", 2)}},
		{selector("c", not("h", ""), not("h", "b")), Vector{item("a", 1)}},
		{selector("c", is("h", "a"), is("h", "b")), nil},
		{selector("c", is("x", "")), Vector{item("", 3), item("a", 1), item("b", 2)}},
		{selector("c", is("x", "1")), nil},
		{selector("c", is("h", "c")), nil},
	} {
		check(t, syntax.Print(c.from), Pick(all, c.from, 1), c.want)
	}
}

func TestPickRange(t *testing.T) {
	all := readAll(t, "c{h=b} 1:1 5:2 6:3 9:4\nc{h=a} 3:5\nc{} 20:1")
	for _, c := range []struct {
		length, time int
		want         [][]int // values of each series; none of one that has none
	}{
		{1, 5, [][]int{{2}}}, {4, 5, [][]int{{2}, {5}}}, {5, 5, [][]int{{1, 2}, {5}}}, {3, 8, [][]int{{3}}}, {4, 9, [][]int{{3, 4}}}, {1000, 19, [][]int{{1, 2, 3, 4}, {5}}}, {1000, 20, [][]int{{1, 2, 3, 4}, {5}, {1}}}, {2, 0, nil}, {3, 12, nil},
	} {
		var got [][]int
		for _, stretch := range PickRange(all, selector("c"), c.length, c.time) {
			var list []int
			for _, sample := range stretch.Samples {
				list = append(list, sample.Value)
			}
			got = append(got, list)
		}
		if !slices.EqualFunc(got, c.want, slices.Equal) {
			t.Errorf("[%d] at %d: %v, want %v", c.length, c.time, got, c.want)
		}
	}
}
