package verify

import (
	"errors"
	"testing"

	"gauge/api"
	"gauge/bytecode"
	"gauge/fault"
	"gauge/syntax"
)

// codeOf gives code with one constant, a selector of each kind and one group.
func codeOf(instructions ...bytecode.Instruction) bytecode.Code {
	from := syntax.Selector{Name: "c"}
	return bytecode.Code{
		Constants:    []int{7},
		Selectors:    []bytecode.Selector{{From: from}, {From: from, Length: 5}},
		Groups:       [][]string{{"h"}},
		Instructions: instructions,
	}
}

func TestLook(t *testing.T) {
	code := codeOf(
		bytecode.Instruction{Op: api.OpConst}, bytecode.Instruction{Op: api.OpStore, Argument: 3},
		bytecode.Instruction{Op: api.OpPick, Argument: 1}, bytecode.Instruction{Op: api.OpOver, Argument: 4},
		bytecode.Instruction{Op: api.OpLoad, Argument: 3}, bytecode.Instruction{Op: api.OpArith, Argument: 3},
	)
	if need, err := Look(code); err != nil || need != (api.Need{Stack: 2, Slots: 4}) {
		t.Errorf("%v, %v", need, err)
	}
}

// Each instruction is asked with the greatest argument that can be, and with
// one above it.
func TestGreatestArguments(t *testing.T) {
	for op, greatest := range []int{0, 1, 4, 3, 0, 0, 0, 0, 0, 2, 2, 0, 15, 15} {
		code := codeOf(bytecode.Instruction{Op: op, Argument: greatest}, bytecode.Instruction{Op: api.OpConst})
		if _, err := Look(code); errors.Is(err, fault.Refer) {
			t.Errorf("instruction %d with %d: %v", op, greatest, err)
		}
		code.Instructions[0].Argument++
		need, err := Look(code)
		var at *fault.Fault
		if !errors.Is(err, fault.Refer) || !errors.As(err, &at) || at.Place != 0 || at.Unit != "instruction" || need != (api.Need{}) {
			t.Errorf("instruction %d with %d: %v, %v", op, greatest+1, need, err)
		}
	}
}

func TestMeet(t *testing.T) {
	var at state
	one := state{reached: true}
	one.put(vector)
	one.slots = [api.MaxSlots]kind{scalar, vector, nothing, stretch}
	at.meet(one)
	if at != one {
		t.Errorf("from one: %v", at)
	}
	two := one
	two.slots = [api.MaxSlots]kind{scalar, scalar, vector, nothing}
	at.meet(two)
	if at.torn || at.stack != one.stack || at.slots != [api.MaxSlots]kind{scalar} {
		t.Errorf("from two: %v", at)
	}
	two.put(vector)
	if at.meet(two); !at.torn {
		t.Errorf("from stacks of different heights: %v", at)
	}
}

func TestPutAndTake(t *testing.T) {
	s := state{reached: true}
	if s.take() != nothing || s.put(nothing) {
		t.Error("nothing was taken or put")
	}
	for i := range api.MaxStack {
		if !s.put(scalar) || s.height != i+1 {
			t.Errorf("%d are on the stack, want %d", s.height, i+1)
		}
	}
	if s.put(scalar) {
		t.Error("more are on the stack than may be")
	}
	for range api.MaxStack {
		if s.take() != scalar {
			t.Error("what was put is not there")
		}
	}
	if s != (state{reached: true}) {
		t.Errorf("something is left: %v", s)
	}
}
