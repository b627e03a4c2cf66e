// Package eval: queries answered outright.
package eval

import (
	"slices"
	"strings"

	"gauge/answer"
	"gauge/series"
	"gauge/syntax"
	"gauge/values"
)

// Answer tells what a query says of series at some times.
func Answer(query syntax.Part, all []series.Series, times []int) string {
	m := moment{all: all, groups: values.NewGroups()}
	lines := make([]string, 0, len(times))
	for _, time := range times {
		m.time = time
		lines = append(lines, answer.Line(time, m.says(query)))
	}
	return strings.Join(lines, "\n")
}

// moment is series looked at from one time.
type moment struct {
	all    []series.Series
	time   int
	groups *values.Groups
}

func (m *moment) says(part syntax.Part) values.Value {
	switch p := part.(type) {
	case syntax.Number:
		return values.Scalar(p.Value)
	case syntax.Negative:
		return values.Negative(m.says(p.Of))
	case syntax.Pair:
		if p.Operator == syntax.Or {
			return m.either(p.Left, p.Right)
		}
		return values.Arithmetic(p.Operator, m.says(p.Left), m.says(p.Right))
	case syntax.Group:
		names := slices.Sorted(slices.Values(p.Names))
		return m.groups.Measure(values.MeasureOf(p.Word), names, m.vector(p.Of))
	case syntax.Window:
		return values.Over(values.MeasureOf(p.Word), values.PickRange(m.all, p.From, p.Length, m.time))
	case syntax.Selector:
		return values.Pick(m.all, p, m.time)
	}
	return values.Vector(nil)
}

func (m *moment) either(first, second syntax.Part) values.Vector {
	if says := m.vector(first); len(says) > 0 {
		return says
	}
	return m.vector(second)
}

// vector tells what a part says that was found to be a vector.
func (m *moment) vector(part syntax.Part) values.Vector {
	says, _ := m.says(part).(values.Vector)
	return says
}
