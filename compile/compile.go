// Package compile: code made of queries.
package compile

import (
	"gauge/api"
	"gauge/bytecode"
	"gauge/syntax"
)

// Query makes code of a query. The flags are those of package api.
func Query(query syntax.Part, flags int) bytecode.Code {
	g := newGraph(flags)
	root := g.part(query)
	c := newCoder(g)
	c.put(root)
	if flags&api.Thread != 0 {
		thread(c.instructions)
	}
	return bytecode.Code{Constants: c.constants, Selectors: g.selectors, Groups: g.groups, Instructions: c.instructions}
}

// thread leads each OpFull that leads to another to where that one leads: a
// vector that has values for the first has them for the second. As it begins
// with the last, no chain is longer than one. There is no OpJump in what a
// coder makes.
func thread(instructions []bytecode.Instruction) {
	for i := len(instructions) - 1; i >= 0; i-- {
		to := instructions[i].Argument
		if instructions[i].Op != api.OpFull || to == len(instructions) {
			continue
		}
		if instructions[to].Op == api.OpFull {
			instructions[i].Argument = instructions[to].Argument
		}
	}
}
