package verify

import (
	"gauge/api"
	"gauge/bytecode"
)

// kind is what is known of a value ahead of time.
type kind byte

const (
	nothing kind = iota
	scalar
	vector
	stretch // a range
)

// state is what is known to be there ahead of an instruction.
type state struct {
	reached bool
	torn    bool // it can be reached with stacks of different kinds
	height  int
	stack   [api.MaxStack]kind // nothing from the height on, so that stacks can be held against each other
	slots   [api.MaxSlots]kind
}

// meet adds what is there if an instruction is reached from one more.
func (s *state) meet(other state) {
	if !s.reached {
		*s = other
		return
	}
	if s.stack != other.stack {
		s.torn = true
	}
	for i := range s.slots {
		if s.slots[i] != other.slots[i] {
			s.slots[i] = nothing
		}
	}
}

func (s *state) isAnswer() bool { return !s.torn && s.height == 1 && isPlain(s.stack[0]) }

func isPlain(of kind) bool { return of == scalar || of == vector }

// put tells whether there is something that can be put on the stack.
func (s *state) put(what kind) bool {
	if what == nothing || s.height == api.MaxStack {
		return false
	}
	s.stack[s.height] = what
	s.height++
	return true
}

// take gives nothing, if nothing is there.
func (s *state) take() kind {
	if s.height == 0 {
		return nothing
	}
	s.height--
	what := s.stack[s.height]
	s.stack[s.height] = nothing
	return what
}

// do tells whether an instruction can be done; if so, the state is then what
// is there behind it.
func (s *state) do(code bytecode.Code, one bytecode.Instruction) bool {
	switch one.Op {
	case api.OpConst:
		return s.put(scalar)
	case api.OpPick:
		return s.put(kindOf(code.Selectors[one.Argument]))
	case api.OpOver:
		return s.take() == stretch && s.put(vector)
	case api.OpArith:
		y, x := s.take(), s.take()
		return isPlain(x) && isPlain(y) && s.put(max(x, y))
	case api.OpNeg:
		of := s.take()
		return isPlain(of) && s.put(of)
	case api.OpSum, api.OpMax, api.OpMin, api.OpCount, api.OpFull:
		return s.take() == vector && s.put(vector)
	case api.OpDrop:
		return s.take() != nothing
	case api.OpStore:
		s.slots[one.Argument] = s.take()
		return s.slots[one.Argument] != nothing
	case api.OpLoad:
		return s.put(s.slots[one.Argument])
	}
	return true
}

func kindOf(selector bytecode.Selector) kind {
	if selector.IsRange() {
		return stretch
	}
	return vector
}
