package values

import (
	"sort"

	"gauge/api"
	"gauge/series"
	"gauge/syntax"
)

// Pick gives what a selector says at a time.
func Pick(all []series.Series, selector syntax.Selector, time int) Vector {
	var items []Item
	for _, stretch := range PickRange(all, selector, api.Look, time) {
		latest := stretch.Samples[len(stretch.Samples)-1]
		items = append(items, Item{Labels: stretch.Labels, Value: latest.Value})
	}
	return sortItems(items)
}

// PickRange gives what a window of some length looks at, at a time.
func PickRange(all []series.Series, selector syntax.Selector, length, time int) Range {
	var out Range
	for _, one := range all {
		if !picks(selector, one) {
			continue
		}
		if samples := within(one.Samples, length, time); len(samples) > 0 {
			out = append(out, Stretch{Labels: one.Labels, Samples: samples})
		}
	}
	return out
}

func picks(selector syntax.Selector, one series.Series) bool {
	if one.Name != selector.Name {
		return false
	}
	for _, condition := range selector.Conditions {
		if same := one.Labels.Get(condition.Name) == condition.Text; same == condition.Not {
			return false
		}
	}
	return true
}

func within(samples []series.Sample, length, time int) []series.Sample {
	return samples[upTo(samples, time-length):upTo(samples, time)]
}

// upTo tells how many samples have times that are not above one.
func upTo(samples []series.Sample, time int) int {
	return sort.Search(len(samples), func(i int) bool { return samples[i].Time > time })
}
