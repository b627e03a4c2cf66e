package gauge

import (
	"hash/crc32"
	"maps"
	"regexp"
	"slices"
	"strconv"
	"strings"
	"testing"

	"gauge/api"
	"gauge/syntax"
)

// What follows reads, looks over and runs code once more, from the document's
// words alone: against it the program is held.

const plainCondition = `[a-z]{1,8}!?="[a-z0-9]{0,8}"`

var (
	plainSelector = regexp.MustCompile(`^([a-z]{1,8})(\{` + plainCondition + `(,` + plainCondition + `)*\})?(\[([1-9][0-9]{0,2}|1000)\])?$`)
	plainGroup    = regexp.MustCompile(`^([a-z]{1,8}(,[a-z]{1,8})*)?$`)
	plainWords    = []string{"sum", "max", "min", "count", "total", "peak", "low", "size", "rise", "or", "by"}
)

func isPlainSelector(text string) bool {
	found := plainSelector.FindStringSubmatch(text)
	return found != nil && !slices.Contains(plainWords, found[1]) && len(text)-len(found[4]) <= 300
}

func isPlainGroup(text string) bool {
	seen := map[string]bool{}
	for _, name := range strings.Split(text, ",") {
		if seen[name] {
			return false
		}
		seen[name] = true
	}
	return plainGroup.MatchString(text)
}

// plainNumber reads a number of so many bytes at a place; ok is false where
// the text ends ahead of its end.
func plainNumber(text string, at, size int) (n int, ok bool) {
	if at+size > len(text) {
		return 0, false
	}
	for _, c := range []byte(text[at : at+size]) {
		n = n*256 + int(c)
	}
	return n, true
}

func plainRead(text string) (p parts, e api.Errno, place int) {
	if text == "" || text[0] != 'g' {
		return p, api.ErrCode, 0
	}
	early := func() (parts, api.Errno, int) { return p, api.ErrCode, len(text) }
	if len(text) < 9 {
		return early()
	}
	count := func(i int) int { n, _ := plainNumber(text, 1+2*i, 2); return n }
	at := 9
	for range count(0) {
		n, ok := plainNumber(text, at, 4)
		if !ok {
			return early()
		}
		if n >= 1<<31 {
			n -= 1 << 32
		}
		if n != plainCut(n) {
			return p, api.ErrCode, at
		}
		p.constants = append(p.constants, n)
		at += 4
	}
	for i := range count(1) + count(2) {
		size, ok := plainNumber(text, at, 2)
		if !ok || at+2+size > len(text) {
			return early()
		}
		one := text[at+2 : at+2+size]
		switch {
		case i < count(1) && isPlainSelector(one):
			p.selectors = append(p.selectors, one)
		case i >= count(1) && isPlainGroup(one):
			p.groups = append(p.groups, one)
		default:
			return p, api.ErrCode, at
		}
		at += 2 + size
	}
	for range count(3) {
		if at < len(text) && text[at] > 13 {
			return p, api.ErrCode, at
		}
		n, ok := plainNumber(text, at, 3)
		if !ok {
			return early()
		}
		p.instructions = append(p.instructions, n>>16, n%65536)
		at += 3
	}
	sum, ok := plainNumber(text, at, 4)
	switch {
	case !ok:
		return early()
	case at+4 < len(text):
		return p, api.ErrCode, at + 4
	case uint32(sum) != crc32.ChecksumIEEE([]byte(text[:at])):
		return p, api.ErrSum, 0
	}
	return p, api.OK, 0
}

// plainKinds is kinds as letters (s, v, r): of the stack from below, and of
// the 16 slots, with a dot for nothing.
type plainKinds struct{ stack, slots string }

func plainVerify(text string) (api.Need, api.Errno, int) {
	p, e, place := plainRead(text)
	if e != api.OK {
		return api.Need{}, e, place
	}
	count := len(p.instructions) / 2
	var need api.Need
	for i := range count {
		op, argument := p.instructions[2*i], p.instructions[2*i+1]
		below := []int{len(p.constants), len(p.selectors), 5, 4, 1, len(p.groups), len(p.groups), len(p.groups), len(p.groups), count + 1, count + 1, 1, 16, 16}[op]
		if argument >= below || (op == 9 || op == 10) && argument <= i {
			return api.Need{}, api.ErrRefer, i
		}
		if op >= 12 && argument >= need.Slots {
			need.Slots = argument + 1
		}
	}
	// All that can be there ahead of each instruction, by whatever way.
	there := make([]map[plainKinds]bool, count+1)
	for i := range there {
		there[i] = map[plainKinds]bool{}
	}
	there[0][plainKinds{"", strings.Repeat(".", 16)}] = true
	for i := range count {
		op, argument := p.instructions[2*i], p.instructions[2*i+1]
		if !oneStack(there[i]) {
			return api.Need{}, api.ErrStack, i
		}
		for kinds := range there[i] {
			behind, ok := kinds.do(p, op, argument, common(there[i]))
			if !ok {
				return api.Need{}, api.ErrStack, i
			}
			need.Stack = max(need.Stack, len(behind.stack))
			if op == 9 || op == 10 {
				there[argument][behind] = true
			}
			if op != 9 {
				there[i+1][behind] = true
			}
		}
	}
	for kinds := range there[count] {
		if !oneStack(there[count]) || kinds.stack != "s" && kinds.stack != "v" {
			return api.Need{}, api.ErrStack, count
		}
	}
	return need, api.OK, 0
}

func oneStack(all map[plainKinds]bool) bool {
	stacks := map[string]bool{}
	for kinds := range all {
		stacks[kinds.stack] = true
	}
	return len(stacks) <= 1
}

// common gives of each slot the kind that it has in all.
func common(all map[plainKinds]bool) string {
	var out []byte
	for kinds := range all {
		if out == nil {
			out = []byte(kinds.slots)
		}
		for i := range out {
			if out[i] != kinds.slots[i] {
				out[i] = '.'
			}
		}
	}
	return string(out)
}

func (k plainKinds) do(p parts, op, argument int, slots string) (plainKinds, bool) {
	change := func(from, to string) (plainKinds, bool) {
		left, ok := strings.CutSuffix(k.stack, from)
		return plainKinds{left + to, k.slots}, ok && len(left+to) <= 64
	}
	top := k.stack[max(0, len(k.stack)-1):]
	switch op {
	case 0:
		return change("", "s")
	case 1:
		return change("", map[bool]string{true: "r", false: "v"}[strings.HasSuffix(p.selectors[argument], "]")])
	case 2:
		return change("r", "v")
	case 3:
		for _, turn := range []string{"ss s", "sv v", "vs v", "vv v"} {
			if behind, ok := change(turn[:2], turn[3:]); ok {
				return behind, true
			}
		}
		return k, false
	case 4:
		return k, top == "s" || top == "v"
	case 5, 6, 7, 8, 10:
		return k, top == "v"
	case 11:
		behind, _ := change(top, "")
		return behind, top != ""
	case 12:
		behind, _ := change(top, "")
		behind.slots = k.slots[:argument] + top + k.slots[min(16, argument+1):]
		return behind, top != ""
	case 13:
		behind, ok := change("", slots[argument:argument+1])
		return behind, ok && slots[argument] != '.'
	}
	return k, true
}

// plainThing is what lies on the stack of the plain machine.
type plainThing struct {
	plainValue
	samples map[string][]int // of a range
}

func (thing plainThing) kind() string {
	switch {
	case thing.scalar:
		return "s"
	case thing.samples != nil:
		return "r"
	}
	return "v"
}

// plainRun runs code that was looked over, and tells how many instructions
// were done. It looks at each step whether it can be done.
func plainRun(t *testing.T, p parts, store string, span api.Span) (string, int) {
	t.Helper()
	var out []string
	done := 0
	for time := span.First; time <= span.Last; time += span.Step {
		m := plainMachine{t: t, p: p, store: plainStore{strings.Split(store, "\n"), time}, slots: map[int]plainThing{}}
		for next := 0; next < len(p.instructions)/2; done++ {
			next = m.step(next)
		}
		if len(m.stack) != 1 || m.stack[0].kind() == "r" {
			t.Fatalf("P6: at the end of %v there is %v on the stack", p, m.stack)
		}
		line := strconv.Itoa(time)
		if m.stack[0].scalar {
			line += " " + strconv.Itoa(m.stack[0].value)
		}
		for _, key := range slices.Sorted(maps.Keys(m.stack[0].items)) {
			line += " {" + key + "}" + strconv.Itoa(m.stack[0].items[key])
		}
		out = append(out, line)
	}
	return strings.Join(out, "\n"), done
}

type plainMachine struct {
	t     *testing.T
	p     parts
	store plainStore
	stack []plainThing
	slots map[int]plainThing
}

func (m *plainMachine) take(kinds string) plainThing {
	m.t.Helper()
	if len(m.stack) == 0 || !strings.Contains(kinds, m.stack[len(m.stack)-1].kind()) {
		m.t.Fatalf("P6: code that was looked over goes wrong: %v takes %q of %v", m.p, kinds, m.stack)
	}
	top := m.stack[len(m.stack)-1]
	m.stack = m.stack[:len(m.stack)-1]
	return top
}

func (m *plainMachine) put(thing plainThing) { m.stack = append(m.stack, thing) }

func (m *plainMachine) step(at int) int {
	m.t.Helper()
	op, argument := m.p.instructions[2*at], m.p.instructions[2*at+1]
	switch op {
	case 0:
		m.put(plainThing{plainValue: plainValue{scalar: true, value: m.p.constants[argument]}})
	case 1:
		m.put(m.pick(m.p.selectors[argument]))
	case 2:
		word := []string{"total", "peak", "low", "size", "rise"}[argument]
		m.put(plainThing{plainValue: plainMany(word, m.take("r").samples)})
	case 3:
		y, x := m.take("sv"), m.take("sv")
		operator := []syntax.Operator{syntax.Add, syntax.Subtract, syntax.Multiply, syntax.Divide}[argument]
		m.put(plainThing{plainValue: plainPair(operator, x.plainValue, y.plainValue)})
	case 4:
		m.put(plainThing{plainValue: plainPair(syntax.Subtract, plainValue{scalar: true}, m.take("sv").plainValue)})
	case 5, 6, 7, 8:
		word := []string{"sum", "max", "min", "count"}[op-5]
		m.put(plainThing{plainValue: plainGroups(word, strings.Split(m.p.groups[argument], ","), m.take("v").plainValue)})
	case 9:
		return argument
	case 10:
		top := m.take("v")
		m.put(top)
		if len(top.items) > 0 {
			return argument
		}
	case 11:
		m.take("svr")
	case 12:
		m.slots[argument] = m.take("svr")
	case 13:
		thing, found := m.slots[argument]
		if !found {
			m.t.Fatalf("P6: code that was looked over goes wrong: %v loads a slot that has nothing", m.p)
		}
		m.put(thing)
	}
	if len(m.stack) > 64 {
		m.t.Fatalf("P6: code that was looked over goes wrong: %v grows too high", m.p)
	}
	return at + 1
}

func (m *plainMachine) pick(text string) plainThing {
	bare, length, ranged := strings.Cut(strings.TrimSuffix(text, "]"), "[")
	part, err := syntax.Read(bare)
	if err != nil {
		m.t.Fatal(err)
	}
	if !ranged {
		return plainThing{plainValue: m.store.says(part)}
	}
	n, _ := strconv.Atoi(length)
	return plainThing{samples: m.store.samples(part.(syntax.Selector), n)}
}
