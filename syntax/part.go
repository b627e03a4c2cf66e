// Package syntax: queries as texts and as trees of parts.
package syntax

// Part is a part of a query: a Number, Negative, Pair, Group, Window or
// Selector. Brackets are no part; the tree's shape says what they said.
type Part interface{ rank() rank }

// rank is a line of the document's table: where a part may stand without
// brackets.
type rank int

const (
	queryRank rank = iota
	sumRank
	termRank
	factorRank
)

// Number is a number that stands in a query.
type Number struct{ Value int }

// Negative is a part with - ahead of it.
type Negative struct{ Of Part }

// Pair is two parts with an operator between them.
type Pair struct {
	Operator    Operator
	Left, Right Part
}

// Group is sum, max, min or count of a part, by names.
type Group struct {
	Word  string
	Names []string
	Of    Part
}

// Window is total, peak, low, size or rise of what a selector picks.
type Window struct {
	Word   string
	From   Selector
	Length int
}

// Selector picks series by their name and labels.
type Selector struct {
	Name       string
	Conditions []Condition
}

// Condition asks a label to be a text, or not to be it.
type Condition struct {
	Name string
	Not  bool
	Text string
}

func (Number) rank() rank   { return factorRank }
func (Negative) rank() rank { return factorRank }
func (p Pair) rank() rank   { return p.Operator.rank() }
func (Group) rank() rank    { return factorRank }
func (Window) rank() rank   { return factorRank }
func (Selector) rank() rank { return factorRank }

// Operator is what stands between the two parts of a Pair.
type Operator int

const (
	Or Operator = iota
	Add
	Subtract
	Multiply
	Divide
)

func (o Operator) rank() rank {
	switch o {
	case Or:
		return queryRank
	case Add, Subtract:
		return sumRank
	default:
		return termRank
	}
}

func (o Operator) String() string {
	switch o {
	case Or:
		return "or"
	case Add:
		return "+"
	case Subtract:
		return "-"
	case Multiply:
		return "*"
	default:
		return "/"
	}
}

func isGroupWord(word string) bool {
	switch word {
	case "sum", "max", "min", "count":
		return true
	}
	return false
}

func isWindowWord(word string) bool {
	switch word {
	case "total", "peak", "low", "size", "rise":
		return true
	}
	return false
}

// canNameSeries tells whether a name can stand as a selector's.
func canNameSeries(name string) bool {
	return name != "or" && name != "by" && !isGroupWord(name) && !isWindowWord(name)
}
