// Package series: series that were measured, read from a text.
package series

import (
	"strings"

	"gauge/api"
	"gauge/fault"
	"gauge/labels"
	"gauge/words"
)

// Series is the numbers that were measured under one name and labels.
type Series struct {
	Name    string
	Labels  labels.Labels
	Samples []Sample // by rising times
}

// Sample is a number that was measured at a time.
type Sample struct{ Time, Value int }

// Read reads a store. A line that is no series counts ahead of one that is
// there twice, wherever the two stand; and both ahead of how many there are.
func Read(text string) ([]Series, error) {
	if len(text) > api.MaxStore {
		return nil, fault.Long
	}
	lines := strings.Split(text, "\n")
	all, err := readLines(lines)
	if err != nil {
		return nil, err
	}
	if err := lookForTwice(lines); err != nil {
		return nil, err
	}
	if len(all) > api.MaxSeries || countSamples(all) > api.MaxSamples {
		return nil, fault.Many
	}
	return all, nil
}

func readLines(lines []string) ([]Series, error) {
	var all []Series
	for number, line := range lines {
		if line == "" {
			continue
		}
		one, ok := readSeries(line)
		if !ok {
			return nil, fault.AtLine(number, fault.Store)
		}
		all = append(all, one)
	}
	return all, nil
}

// lookForTwice looks at lines that are series, or empty. A series' name and
// labels are written in one way only, so that the texts tell them apart.
func lookForTwice(lines []string) error {
	seen := map[string]struct{}{}
	for number, line := range lines {
		if line == "" {
			continue
		}
		head, _, _ := strings.Cut(line, "}")
		if _, twice := seen[head]; twice {
			return fault.AtLine(number, fault.Twice)
		}
		seen[head] = struct{}{}
	}
	return nil
}

func countSamples(all []Series) int {
	count := 0
	for _, one := range all {
		count += len(one.Samples)
	}
	return count
}

func readSeries(line string) (Series, bool) {
	name, rest, opened := strings.Cut(line, "{")
	inside, behind, closed := strings.Cut(rest, "}")
	if !opened || !closed || !words.IsName(name) {
		return Series{}, false
	}
	list, ok := readLabels(inside)
	if !ok {
		return Series{}, false
	}
	samples, ok := readSamples(behind)
	if !ok {
		return Series{}, false
	}
	return Series{Name: name, Labels: labels.Of(list), Samples: samples}, true
}

func readLabels(text string) ([]labels.Label, bool) {
	if text == "" {
		return nil, true
	}
	var list []labels.Label
	last := ""
	for _, one := range strings.Split(text, ",") {
		name, word, found := strings.Cut(one, "=")
		if !found || !words.IsName(name) || word == "" || !words.IsWord(word) || name <= last {
			return nil, false
		}
		list = append(list, labels.Label{Name: name, Text: word})
		last = name
	}
	return list, true
}

func readSamples(text string) ([]Sample, bool) {
	if text == "" {
		return nil, true
	}
	behindBlank, found := strings.CutPrefix(text, " ")
	if !found {
		return nil, false
	}
	var samples []Sample
	last := -1
	for _, one := range strings.Split(behindBlank, " ") {
		sample, ok := readSample(one)
		if !ok || sample.Time <= last {
			return nil, false
		}
		samples = append(samples, sample)
		last = sample.Time
	}
	return samples, true
}

func readSample(text string) (Sample, bool) {
	time, value, found := strings.Cut(text, ":")
	if !found {
		return Sample{}, false
	}
	when, ok := words.Number(time, api.MaxTime)
	if !ok {
		return Sample{}, false
	}
	what, ok := readValue(value)
	return Sample{Time: when, Value: what}, ok
}

func readValue(text string) (int, bool) {
	digits, negative := strings.CutPrefix(text, "-")
	value, ok := words.Number(digits, api.MaxValue)
	if !negative {
		return value, ok
	}
	return -value, ok && value != 0
}
