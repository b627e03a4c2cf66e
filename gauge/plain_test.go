package gauge

import (
	"maps"
	"slices"
	"strconv"
	"strings"
	"testing"

	"gauge/api"
	"gauge/syntax"
)

// What follows answers queries once more, from the document's words alone, on
// the text of a store: against it the program is held.

type plainValue struct {
	scalar bool
	value  int
	items  map[string]int // by what stands between the braces
}

type plainStore struct {
	lines []string
	time  int
}

func plainAnswer(t *testing.T, query, store string, span api.Span) string {
	t.Helper()
	part, err := syntax.Read(query)
	if err != nil {
		t.Fatal(err)
	}
	var out []string
	for time := span.First; time <= span.Last; time += span.Step {
		says := plainStore{strings.Split(store, "\n"), time}.says(part)
		line := strconv.Itoa(time)
		if says.scalar {
			line += " " + strconv.Itoa(says.value)
		}
		for _, key := range slices.Sorted(maps.Keys(says.items)) {
			line += " {" + key + "}" + strconv.Itoa(says.items[key])
		}
		out = append(out, line)
	}
	return strings.Join(out, "\n")
}

func (s plainStore) says(part syntax.Part) plainValue {
	switch p := part.(type) {
	case syntax.Number:
		return plainValue{scalar: true, value: p.Value}
	case syntax.Negative:
		return plainPair(syntax.Subtract, plainValue{scalar: true}, s.says(p.Of))
	case syntax.Pair:
		left, right := s.says(p.Left), s.says(p.Right)
		if p.Operator != syntax.Or {
			return plainPair(p.Operator, left, right)
		}
		if len(left.items) > 0 {
			return left
		}
		return right
	case syntax.Group:
		return plainGroups(p.Word, p.Names, s.says(p.Of))
	case syntax.Window:
		return plainMany(p.Word, s.samples(p.From, p.Length))
	case syntax.Selector:
		return plainMany("last", s.samples(p, 10))
	}
	return plainValue{}
}

func plainGroups(word string, names []string, of plainValue) plainValue {
	members := map[string][]int{}
	for key, value := range of.items {
		var own []string
		for _, label := range strings.Split(key, ",") {
			name, _, _ := strings.Cut(label, "=")
			if name != "" && slices.Contains(names, name) {
				own = append(own, label)
			}
		}
		members[strings.Join(own, ",")] = append(members[strings.Join(own, ",")], value)
	}
	return plainMany(word, members)
}

func plainCut(value int) int {
	if value > 1000000000 {
		return 1000000000
	}
	if value < -1000000000 {
		return -1000000000
	}
	return value
}

func plainPair(operator syntax.Operator, x, y plainValue) plainValue {
	do := func(a, b int) int {
		switch operator.String() {
		case "+":
			return plainCut(a + b)
		case "-":
			return plainCut(a - b)
		case "*":
			return plainCut(a * b)
		}
		if b == 0 {
			return 0
		}
		return plainCut(a / b)
	}
	if x.scalar && y.scalar {
		return plainValue{scalar: true, value: do(x.value, y.value)}
	}
	out := plainValue{items: map[string]int{}}
	for key := range allKeys(x.items, y.items) {
		a, inX := x.items[key]
		b, inY := y.items[key]
		switch {
		case x.scalar:
			out.items[key] = do(x.value, b)
		case y.scalar:
			out.items[key] = do(a, y.value)
		case inX && inY:
			out.items[key] = do(a, b)
		}
	}
	return out
}

func allKeys(x, y map[string]int) map[string]int {
	out := maps.Clone(x)
	if out == nil {
		out = map[string]int{}
	}
	maps.Copy(out, y)
	return out
}

func plainMany(word string, members map[string][]int) plainValue {
	out := plainValue{items: map[string]int{}}
	for key, list := range members {
		if len(list) == 0 {
			continue
		}
		sum := 0
		for _, value := range list {
			sum += value
		}
		last := list[len(list)-1]
		switch word {
		case "sum", "total":
			out.items[key] = plainCut(sum)
		case "max", "peak":
			out.items[key] = slices.Max(list)
		case "min", "low":
			out.items[key] = slices.Min(list)
		case "count", "size":
			out.items[key] = len(list)
		case "rise":
			out.items[key] = plainCut(last - list[0])
		case "last":
			out.items[key] = last
		}
	}
	return out
}

// samples gives the values of each series that a selector picks, by labels.
func (s plainStore) samples(from syntax.Selector, length int) map[string][]int {
	out := map[string][]int{}
lines:
	for _, line := range s.lines {
		name, rest, _ := strings.Cut(line, "{")
		if name != from.Name {
			continue
		}
		key, samples, _ := strings.Cut(rest, "}")
		for _, c := range from.Conditions {
			_, text, _ := strings.Cut(","+key, ","+c.Name+"=")
			text, _, _ = strings.Cut(text, ",")
			if (text == c.Text) == c.Not {
				continue lines
			}
		}
		for _, sample := range strings.Fields(samples) {
			time, value, _ := strings.Cut(sample, ":")
			at, _ := strconv.Atoi(time)
			what, _ := strconv.Atoi(value)
			if at > s.time-length && at <= s.time {
				out[key] = append(out[key], what)
			}
		}
	}
	return out
}
