package machine

import (
	"testing"

	"gauge/api"
	"gauge/bytecode"
	"gauge/fault"
	"gauge/series"
	"gauge/syntax"
)

func readAll(t *testing.T) []series.Series {
	t.Helper()
	all, err := series.Read("c{h=a} 1:5 4:8\nc{h=b} 4:2\nd{h=a} 4:3")
	if err != nil {
		t.Fatal(err)
	}
	return all
}

// either is the code of d or c, with d in a slot on the way.
func either() bytecode.Code {
	return bytecode.Code{
		Selectors: []bytecode.Selector{{From: syntax.Selector{Name: "c"}}, {From: syntax.Selector{Name: "d"}}},
		Instructions: []bytecode.Instruction{
			{Op: api.OpPick, Argument: 1}, {Op: api.OpStore, Argument: 2}, {Op: api.OpLoad, Argument: 2},
			{Op: api.OpFull, Argument: 6}, {Op: api.OpDrop}, {Op: api.OpPick},
		},
	}
}

func TestRun(t *testing.T) {
	got, err := Run(either(), readAll(t), []int{1, 4}, api.MaxFuel)
	if want := "1 {h=a}5\n4 {h=a}3"; got != want || err != nil {
		t.Errorf("%q, %v, want %q", got, err, want)
	}
	if got, err := Run(either(), readAll(t), nil, 0); got != "" || err != nil {
		t.Errorf("at no time: %q, %v", got, err)
	}
}

// The code takes 6 at the time 1 and 4 at the time 4.
func TestFuel(t *testing.T) {
	for fuel, want := range map[int]error{-1: fault.Fuel, 0: fault.Fuel, 5: fault.Fuel, 6: fault.Fuel, 9: fault.Fuel, 10: nil, 11: nil, api.MaxFuel: nil, api.MaxFuel + 1: fault.Fuel} {
		got, err := Run(either(), readAll(t), []int{1, 4}, fuel)
		if err != want || (got == "") != (want != nil) {
			t.Errorf("with %d: %q, %v, want %v", fuel, got, err, want)
		}
	}
}

// What was in a slot or on the stack at one time is not there at the next.
func TestBeginIsAnew(t *testing.T) {
	m := newMachine(either(), readAll(t))
	m.begin(1)
	m.do(bytecode.Instruction{Op: api.OpPick})
	m.do(bytecode.Instruction{Op: api.OpStore, Argument: 3})
	m.do(bytecode.Instruction{Op: api.OpPick})
	m.begin(2)
	if len(m.stack) != 0 || len(m.slots) != 0 {
		t.Errorf("left over: %v, %v", m.stack, m.slots)
	}
}
