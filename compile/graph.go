package compile

import (
	"slices"
	"strings"

	"gauge/api"
	"gauge/bytecode"
	"gauge/syntax"
	"gauge/values"
)

// node is a part of a query, by the instruction that is the last one done for
// it. That of an or is OpFull, though more than this is done for one.
type node struct {
	op            int
	argument      int // of OpConst the constant itself
	first, second int // the nodes that it takes, none where it takes fewer
}

const none = -1

// graph is a query's nodes, each behind those that it takes.
type graph struct {
	fold, share bool
	nodes       []node
	uses        []int // how many times each node is taken by others
	numbers     map[node]int

	selectors       []bytecode.Selector
	groups          [][]string
	selectorNumbers map[string]int
	groupNumbers    map[string]int
}

func newGraph(flags int) *graph {
	return &graph{
		fold:            flags&api.Fold != 0,
		share:           flags&api.Share != 0,
		numbers:         map[node]int{},
		selectorNumbers: map[string]int{},
		groupNumbers:    map[string]int{},
	}
}

// part adds a part with all that is in it, and gives its number.
func (g *graph) part(part syntax.Part) int {
	switch p := part.(type) {
	case syntax.Number:
		return g.constant(p.Value)
	case syntax.Negative:
		return g.negative(g.part(p.Of))
	case syntax.Pair:
		return g.pair(p.Operator, g.part(p.Left), g.part(p.Right))
	case syntax.Group:
		of := g.part(p.Of)
		return g.add(node{groupOp(p.Word), g.group(p.Names), of, none})
	case syntax.Window:
		of := g.pick(bytecode.Selector{From: p.From, Length: p.Length})
		return g.add(node{api.OpOver, int(values.MeasureOf(p.Word)), of, none})
	case syntax.Selector:
		return g.pick(bytecode.Selector{From: p})
	}
	return none
}

// groupOp leans on instructions and measures standing in the same order.
func groupOp(word string) int { return api.OpSum + int(values.MeasureOf(word)) }

// add adds a node; if what stands there twice is shared, just one that is not
// there.
func (g *graph) add(one node) int {
	if number, there := g.numbers[one]; there && g.share {
		return number
	}
	number := len(g.nodes)
	g.numbers[one] = number
	g.nodes = append(g.nodes, one)
	g.uses = append(g.uses, 0)
	for _, taken := range one.takes() {
		g.uses[taken]++
	}
	return number
}

// takes gives the nodes that one takes, the lower first.
func (n node) takes() []int {
	switch {
	case n.first == none:
		return nil
	case n.second == none:
		return []int{n.first}
	}
	return []int{n.first, n.second}
}

func (g *graph) constant(value int) int { return g.add(node{api.OpConst, value, none, none}) }

// known gives a node's value, if it is to be worked out here.
func (g *graph) known(number int) (values.Scalar, bool) {
	one := g.nodes[number]
	return values.Scalar(one.argument), g.fold && one.op == api.OpConst
}

func (g *graph) negative(of int) int {
	if value, ok := g.known(of); ok {
		return g.folded(values.Negative(value))
	}
	return g.add(node{api.OpNeg, 0, of, none})
}

func (g *graph) pair(operator syntax.Operator, first, second int) int {
	if operator == syntax.Or {
		return g.add(node{api.OpFull, 0, first, second})
	}
	x, isKnown := g.known(first)
	y, isKnownToo := g.known(second)
	if isKnown && isKnownToo {
		return g.folded(values.Arithmetic(operator, x, y))
	}
	return g.add(node{api.OpArith, int(operator - syntax.Add), first, second})
}

// folded adds what was worked out of scalars, and so is one.
func (g *graph) folded(value values.Value) int {
	scalar, _ := value.(values.Scalar)
	return g.constant(int(scalar))
}

func (g *graph) pick(selector bytecode.Selector) int {
	text := selector.String()
	number, there := g.selectorNumbers[text]
	if !there {
		number = len(g.selectors)
		g.selectorNumbers[text] = number
		g.selectors = append(g.selectors, selector)
	}
	return g.add(node{api.OpPick, number, none, none})
}

// group gives the number of a group. In a query a name may stand there twice,
// and in any order: in code it may not stand there twice, and the order says
// nothing.
func (g *graph) group(names []string) int {
	sorted := slices.Compact(slices.Sorted(slices.Values(names)))
	text := strings.Join(sorted, ",")
	number, there := g.groupNumbers[text]
	if !there {
		number = len(g.groups)
		g.groupNumbers[text] = number
		g.groups = append(g.groups, sorted)
	}
	return number
}
