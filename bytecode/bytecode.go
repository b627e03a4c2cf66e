// Package bytecode: code for the machine, read from a text of bytes and told
// as one.
package bytecode

import (
	"strconv"

	"gauge/api"
	"gauge/syntax"
)

// Code is what the machine does, and what that speaks of by numbers.
type Code struct {
	Constants    []int
	Selectors    []Selector
	Groups       [][]string // the names of each, sorted
	Instructions []Instruction
}

// Selector picks a vector or a range.
type Selector struct {
	From   syntax.Selector
	Length int // of the range, 0 if it picks a vector
}

// Instruction is one step of the machine.
type Instruction struct{ Op, Argument int }

// IsRange tells whether a selector picks a range.
func (s Selector) IsRange() bool { return s.Length > 0 }

// String tells a selector as it stands in code.
func (s Selector) String() string {
	text := syntax.Print(s.From)
	if s.IsRange() {
		text += "[" + strconv.Itoa(s.Length) + "]"
	}
	return text
}

// CanJump tells whether another instruction than the one behind it may be
// next.
func (i Instruction) CanJump() bool { return i.Op == api.OpJump || i.Op == api.OpFull }

// HasSlot tells whether an instruction's argument is a slot.
func (i Instruction) HasSlot() bool { return i.Op == api.OpStore || i.Op == api.OpLoad }
