// Package verify: code looked over, so that nothing can go wrong when it is
// run.
package verify

import (
	"gauge/api"
	"gauge/bytecode"
	"gauge/fault"
)

// Look looks code over and gives what it needs.
func Look(code bytecode.Code) (api.Need, error) {
	for number, one := range code.Instructions {
		if !canBe(code, number, one) {
			return api.Need{}, fault.AtInstruction(number, fault.Refer)
		}
	}
	stack, err := highest(code)
	if err != nil {
		return api.Need{}, err
	}
	return api.Need{Stack: stack, Slots: slotsOf(code)}, nil
}

// canBe tells whether an instruction's argument can be what it is.
func canBe(code bytecode.Code, number int, one bytecode.Instruction) bool {
	switch one.Op {
	case api.OpConst:
		return one.Argument < len(code.Constants)
	case api.OpPick:
		return one.Argument < len(code.Selectors)
	case api.OpOver:
		return one.Argument <= lastMeasure
	case api.OpArith:
		return one.Argument <= lastOperator
	case api.OpSum, api.OpMax, api.OpMin, api.OpCount:
		return one.Argument < len(code.Groups)
	case api.OpJump, api.OpFull:
		return number < one.Argument && one.Argument <= len(code.Instructions)
	case api.OpStore, api.OpLoad:
		return one.Argument < api.MaxSlots
	}
	return one.Argument == 0
}

const (
	lastMeasure  = 4 // rise
	lastOperator = 3 // /
)

// slotsOf counts slots in all instructions, in those that cannot be reached,
// too.
func slotsOf(code bytecode.Code) int {
	slots := 0
	for _, one := range code.Instructions {
		if one.HasSlot() {
			slots = max(slots, one.Argument+1)
		}
	}
	return slots
}

// highest follows the kinds of what is there from instruction to instruction,
// and tells how high the stack grows. One pass is enough: as jumps go on
// alone, all that lead to an instruction stand ahead of it.
func highest(code bytecode.Code) (int, error) {
	ahead := make([]state, len(code.Instructions)+1)
	ahead[0].reached = true
	most := 0
	for number, one := range code.Instructions {
		now := ahead[number]
		if !now.reached {
			continue
		}
		if now.torn || !now.do(code, one) {
			return 0, fault.AtInstruction(number, fault.Stack)
		}
		most = max(most, now.height)
		if one.CanJump() {
			ahead[one.Argument].meet(now)
		}
		if one.Op != api.OpJump {
			ahead[number+1].meet(now)
		}
	}
	if !ahead[len(code.Instructions)].isAnswer() {
		return 0, fault.AtInstruction(len(code.Instructions), fault.Stack)
	}
	return most, nil
}
