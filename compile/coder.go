package compile

import (
	"maps"
	"slices"

	"gauge/api"
	"gauge/bytecode"
)

// coder makes instructions of a graph. Whatever it keeps in slots, and
// however few they are, what it makes says the same: what is in no slot is
// worked out again.
type coder struct {
	*graph
	left         []int       // how many times each node is still to be taken
	slots        map[int]int // by slots: the node whose value is in it, whichever way was gone
	taken        map[int]int // for takenInAndOutside, which fills it anew each time
	constants    []int
	instructions []bytecode.Instruction
}

func newCoder(g *graph) *coder {
	return &coder{graph: g, left: slices.Clone(g.uses), slots: map[int]int{}, taken: map[int]int{}}
}

func (c *coder) emit(op, argument int) {
	c.instructions = append(c.instructions, bytecode.Instruction{Op: op, Argument: argument})
}

// put adds what puts a node's value on the stack.
func (c *coder) put(number int) {
	// What found no slot is taken more often than was counted.
	c.left[number] = max(0, c.left[number]-1)
	if slot, found := c.slotWith(number); found {
		c.emit(api.OpLoad, slot)
		if c.left[number] == 0 {
			delete(c.slots, slot)
		}
		return
	}
	c.work(number)
	if c.left[number] == 0 || !c.isWorthKeeping(number) {
		return
	}
	if slot, found := c.freeSlot(); found {
		c.keep(number, slot)
		c.emit(api.OpLoad, slot)
	}
}

// slotWith gives the slot that has a node's value, if one has it.
func (c *coder) slotWith(number int) (int, bool) {
	for slot := range api.MaxSlots {
		if has, full := c.slots[slot]; full && has == number {
			return slot, true
		}
	}
	return 0, false
}

func (c *coder) freeSlot() (int, bool) {
	for slot := range api.MaxSlots {
		if _, full := c.slots[slot]; !full {
			return slot, true
		}
	}
	return 0, false
}

func (c *coder) keep(number, slot int) {
	c.emit(api.OpStore, slot)
	c.slots[slot] = number
}

// isWorthKeeping tells whether it is worth a slot not to work a node out
// again. Of numbers and selectors it is not, nor with - ahead of them.
func (c *coder) isWorthKeeping(number int) bool {
	one := c.nodes[number]
	if one.op == api.OpNeg {
		one = c.nodes[one.first]
	}
	return one.op != api.OpConst && one.op != api.OpPick
}

// work adds what works a node's value out and puts it on the stack.
func (c *coder) work(number int) {
	one := c.nodes[number]
	if one.op == api.OpFull {
		c.either(one)
		return
	}
	for _, taken := range one.takes() {
		c.put(taken)
	}
	if one.op == api.OpConst {
		// Each has an entry of its own: so how long code is does not hang on
		// whether two numbers are the same.
		c.constants = append(c.constants, one.argument)
		one.argument = len(c.constants) - 1
	}
	c.emit(one.op, one.argument)
}

// either works an or out. What comes behind it can lean only on what is in
// the slots whether its second part is worked out or not.
func (c *coder) either(one node) {
	c.keepAhead(one.second)
	c.put(one.first)
	leap := len(c.instructions)
	c.emit(api.OpFull, 0)
	c.emit(api.OpDrop, 0)
	before := maps.Clone(c.slots)
	c.put(one.second)
	maps.DeleteFunc(c.slots, func(slot, number int) bool {
		was, full := before[slot]
		return !full || was != number
	})
	c.instructions[leap].Argument = len(c.instructions)
}

// keepAhead works out what is taken both in a node that may be passed over,
// and outside of it: else it would have to be worked out in both places.
func (c *coder) keepAhead(number int) {
	for {
		shared := c.takenInAndOutside(number)
		slot, found := c.freeSlot()
		if shared == none || !found {
			return
		}
		// Set aside, so that it is still free when the work is done.
		c.slots[slot] = none
		c.work(shared)
		c.keep(shared, slot)
	}
}

// takenInAndOutside gives the last node of which this holds and which is in
// no slot yet: what that one takes may come to be in slots with it.
func (c *coder) takenInAndOutside(number int) int {
	clear(c.taken)
	c.countTaken(number)
	last := none
	for one, times := range c.taken {
		if _, found := c.slotWith(one); !found && times < c.left[one] && c.isWorthKeeping(one) {
			last = max(last, one)
		}
	}
	return last
}

// countTaken counts how many times each node is taken if one is put. What is
// in a slot, or comes to be in one, takes nothing again.
func (c *coder) countTaken(number int) {
	c.taken[number]++
	if _, found := c.slotWith(number); found || c.taken[number] > 1 {
		return
	}
	for _, taken := range c.nodes[number].takes() {
		c.countTaken(taken)
	}
}
