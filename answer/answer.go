// Package answer: the times that are asked for, and how an answer is told.
package answer

import (
	"strconv"
	"strings"

	"gauge/api"
	"gauge/fault"
	"gauge/values"
)

// Times gives the times of a span.
func Times(span api.Span) ([]int, error) {
	if !isTime(span.First) || !isTime(span.Last) || span.Last < span.First {
		return nil, fault.Times
	}
	if span.Step < 1 || span.Step > api.MaxTime {
		return nil, fault.Times
	}
	count := (span.Last-span.First)/span.Step + 1
	if count > api.MaxSteps {
		return nil, fault.Times
	}
	times := make([]int, count)
	for i := range times {
		times[i] = span.First + i*span.Step
	}
	return times, nil
}

func isTime(time int) bool { return -api.MaxTime <= time && time <= api.MaxTime }

// Line tells what was said at a time.
func Line(time int, value values.Value) string {
	var line strings.Builder
	line.WriteString(strconv.Itoa(time))
	switch says := value.(type) {
	case values.Scalar:
		line.WriteString(" " + strconv.Itoa(int(says)))
	case values.Vector:
		for _, item := range says {
			line.WriteString(" {" + item.Labels.String() + "}" + strconv.Itoa(item.Value))
		}
	}
	return line.String()
}
