// Package machine: code that was looked over, run.
package machine

import (
	"strings"

	"gauge/answer"
	"gauge/api"
	"gauge/bytecode"
	"gauge/fault"
	"gauge/series"
	"gauge/syntax"
	"gauge/values"
)

// Run tells what code answers at some times. The code must have been looked
// over: nothing here asks again whether an instruction can be done.
func Run(code bytecode.Code, all []series.Series, times []int, fuel int) (string, error) {
	if fuel < 0 || fuel > api.MaxFuel {
		return "", fault.Fuel
	}
	m := newMachine(code, all)
	lines := make([]string, 0, len(times))
eachTime:
	for _, time := range times {
		m.begin(time)
		next := 0
	eachStep:
		for {
			if next == len(code.Instructions) {
				lines = append(lines, answer.Line(time, m.take()))
				continue eachTime
			}
			if fuel == 0 {
				break eachTime
			}
			fuel--
			switch one := code.Instructions[next]; one.Op {
			case api.OpJump:
				next = one.Argument
				continue eachStep
			case api.OpFull:
				if m.isFull() {
					next = one.Argument
					continue eachStep
				}
			default:
				m.do(one)
			}
			next++
		}
	}
	// Some time is not told: there was no fuel left for it.
	if len(lines) < len(times) {
		return "", fault.Fuel
	}
	return strings.Join(lines, "\n"), nil
}

// machine is used for all times: what it keeps is emptied ahead of each.
type machine struct {
	code   bytecode.Code
	all    []series.Series
	time   int
	stack  []values.Value
	slots  map[int]values.Value
	groups *values.Groups
}

func newMachine(code bytecode.Code, all []series.Series) *machine {
	return &machine{code: code, all: all, slots: map[int]values.Value{}, groups: values.NewGroups()}
}

func (m *machine) begin(time int) {
	m.time = time
	m.stack = m.stack[:0]
	clear(m.slots)
}

func (m *machine) put(value values.Value) { m.stack = append(m.stack, value) }

func (m *machine) take() values.Value {
	last := len(m.stack) - 1
	value := m.stack[last]
	m.stack = m.stack[:last]
	return value
}

// isFull tells whether the vector on top has any values.
func (m *machine) isFull() bool {
	top, _ := m.stack[len(m.stack)-1].(values.Vector)
	return len(top) > 0
}

// do does an instruction that leads to the one behind it.
func (m *machine) do(one bytecode.Instruction) {
	switch one.Op {
	case api.OpConst:
		m.put(values.Scalar(m.code.Constants[one.Argument]))
	case api.OpPick:
		m.put(m.pick(m.code.Selectors[one.Argument]))
	case api.OpOver:
		of, _ := m.take().(values.Range)
		m.put(values.Over(values.Measure(one.Argument), of))
	case api.OpArith:
		y, x := m.take(), m.take()
		m.put(values.Arithmetic(syntax.Add+syntax.Operator(one.Argument), x, y))
	case api.OpNeg:
		m.put(values.Negative(m.take()))
	case api.OpSum, api.OpMax, api.OpMin, api.OpCount:
		of, _ := m.take().(values.Vector)
		m.put(m.groups.Measure(values.Measure(one.Op-api.OpSum), m.code.Groups[one.Argument], of))
	case api.OpDrop:
		m.take()
	case api.OpStore:
		m.slots[one.Argument] = m.take()
	case api.OpLoad:
		m.put(m.slots[one.Argument])
	}
}

func (m *machine) pick(selector bytecode.Selector) values.Value {
	if selector.IsRange() {
		return values.PickRange(m.all, selector.From, selector.Length, m.time)
	}
	return values.Pick(m.all, selector.From, m.time)
}
