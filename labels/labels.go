// Package labels: the labels by which series and values are told apart.
package labels

import (
	"slices"
	"strings"
)

// Label is a name and the text that belongs to it.
type Label struct{ Name, Text string }

// Labels are none or more labels, by rising names. They are kept together
// with the text that tells them, as that is asked for at each time anew.
type Labels struct {
	list []Label
	text string
}

// Of makes Labels of a list that is by rising names.
func Of(list []Label) Labels {
	var text strings.Builder
	for i, one := range list {
		if i > 0 {
			text.WriteString(",")
		}
		text.WriteString(one.Name + "=" + one.Text)
	}
	return Labels{list: slices.Clone(list), text: text.String()}
}

// String tells labels as they stand between braces. No two Labels are told
// alike.
func (l Labels) String() string { return l.text }

// Get gives the text of the label of a name, the empty text if there is none.
func (l Labels) Get(name string) string {
	for _, one := range l.list {
		if one.Name == name {
			return one.Text
		}
	}
	return ""
}

// Among gives those labels whose names are among these, which must be sorted:
// code may have many thousands of them.
func (l Labels) Among(names []string) Labels {
	var list []Label
	for _, one := range l.list {
		if _, found := slices.BinarySearch(names, one.Name); found {
			list = append(list, one)
		}
	}
	if len(list) == len(l.list) {
		return l
	}
	return Of(list)
}
