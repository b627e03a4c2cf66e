package bytecode

import (
	"slices"
	"strings"

	"gauge/api"
	"gauge/syntax"
	"gauge/words"
)

// readSelector reads a selector's text, and tells whether it is one.
func readSelector(text string) (Selector, bool) {
	bare, behind, ranged := strings.Cut(text, "[")
	length := 0
	if ranged {
		digits, closed := strings.CutSuffix(behind, "]")
		number, ok := words.Number(digits, api.MaxWindow)
		if !closed || !ok || number == 0 {
			return Selector{}, false
		}
		length = number
	}
	part, err := syntax.Read(bare)
	if err != nil {
		return Selector{}, false
	}
	from, ok := part.(syntax.Selector)
	// What Print would tell otherwise is no selector's text.
	if !ok || syntax.Print(from) != bare {
		return Selector{}, false
	}
	return Selector{From: from, Length: length}, true
}

// readGroup reads a group's text, and tells whether it is one. As it does not
// matter in which order the names stand there, they are given sorted.
func readGroup(text string) ([]string, bool) {
	if text == "" {
		return nil, true
	}
	names := strings.Split(text, ",")
	slices.Sort(names)
	last := ""
	for _, name := range names {
		if !words.IsName(name) || name == last {
			return nil, false
		}
		last = name
	}
	return names, true
}
