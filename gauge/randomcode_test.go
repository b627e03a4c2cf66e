package gauge

import (
	"maps"
	"math/rand"
	"slices"
	"strconv"
	"testing"

	"gauge/api"
)

// coder makes up code. Kinds are s, v and r, as in plainKinds.
type coder struct {
	maker
	parts
	slots map[int]byte // the kind of what each of them has for certain
}

// code gives code that can be run.
func (m maker) code(depth int) parts {
	c := &coder{maker: m, slots: map[int]byte{}}
	for range 1 + m.Intn(3) {
		c.constants = append(c.constants, []int{m.Intn(10), m.Intn(2000) - 1000, 1000000000, -1000000000}[m.Intn(4)])
	}
	for range 2 + m.Intn(3) {
		c.selectors = append(c.selectors, m.selector().printed, m.selector().printed+"["+strconv.Itoa(m.length())+"]")
	}
	c.groups = []string{m.pick("", "x", "or,x"), m.pick("sum,or", "sum", "x,sum,a,or")}
	c.value(depth, "sv"[m.Intn(2)])
	return c.parts
}

func (c *coder) add(op, argument int) { c.instructions = append(c.instructions, op, argument) }

func (c *coder) next() int { return len(c.instructions) / 2 }

// value adds instructions that put something of a kind on the stack.
func (c *coder) value(depth int, kind byte) {
	if depth == 0 {
		c.leaf(kind)
		return
	}
	switch c.Intn(8) {
	case 0:
		c.keep(depth-1, kind)
	case 1:
		c.value(depth-1, "svr"[c.Intn(3)])
		c.add(11, 0)
		c.value(depth-1, kind)
	case 2:
		c.value(depth-1, kind)
		c.leap(9, func() {
			for range c.Intn(3) {
				c.add(c.junk())
			}
		})
	default:
		c.made(depth-1, kind)
	}
}

func (c *coder) leaf(kind byte) {
	for _, slot := range slices.Sorted(maps.Keys(c.slots)) {
		if c.slots[slot] == kind && c.Intn(3) == 0 {
			c.add(13, slot)
			return
		}
	}
	switch kind {
	case 's':
		c.add(0, c.Intn(len(c.constants)))
	case 'v':
		c.add(1, 2*c.Intn(len(c.selectors)/2))
	default:
		c.add(1, 1+2*c.Intn(len(c.selectors)/2))
	}
}

func (c *coder) keep(depth int, kind byte) {
	slot := []int{c.Intn(3), c.Intn(16)}[c.Intn(2)]
	c.value(depth, kind)
	c.add(12, slot)
	c.slots[slot] = kind
	c.add(13, slot)
}

// leap adds a jump over what is added meanwhile.
func (c *coder) leap(op int, between func()) {
	from := len(c.instructions) + 1
	c.add(op, 0)
	between()
	c.instructions[from] = c.next()
}

func (c *coder) made(depth int, kind byte) {
	switch choice := c.Intn(5); {
	case kind == 'r':
		c.leaf(kind)
	case choice == 0:
		c.value(depth, kind)
		c.add(4, 0)
	case kind == 's' || choice == 1:
		kinds := []byte{kind, kind}
		if kind == 'v' {
			kinds[c.Intn(2)] = "sv"[c.Intn(2)]
		}
		c.value(depth, kinds[0])
		c.value(depth, kinds[1])
		c.add(3, c.Intn(4))
	case choice == 2:
		c.value(depth, 'v')
		before := maps.Clone(c.slots)
		c.leap(10, func() {
			c.add(11, 0)
			c.value(depth, 'v')
		})
		maps.DeleteFunc(c.slots, func(slot int, kind byte) bool { return before[slot] != kind })
	case choice == 3:
		c.value(depth, 'v')
		c.add(5+c.Intn(4), c.Intn(len(c.groups)))
	default:
		c.value(depth, 'r')
		c.add(2, c.Intn(5))
	}
}

// junk gives an instruction whose argument can be, or nearly.
func (m maker) junk() (int, int) {
	op := m.Intn(14)
	return op, []int{0, 0, m.Intn(3), m.Intn(17)}[m.Intn(4)]
}

// bend changes an instruction, or adds or takes away one.
func (m maker) bend(p parts) parts {
	p.instructions = slices.Clone(p.instructions)
	at := 2 * m.Intn(len(p.instructions)/2)
	op, argument := m.junk()
	if op == 9 || op == 10 {
		argument = at/2 + m.Intn(5)
	}
	switch m.Intn(4) {
	case 0:
		p.instructions[at] = op
	case 1:
		p.instructions[at+1] = argument
	case 2:
		p.instructions = slices.Insert(p.instructions, at, op, argument)
	default:
		p.instructions = slices.Delete(p.instructions, at, at+2)
	}
	return p
}

func checkVerify(t *testing.T, code string) api.Errno {
	t.Helper()
	wantNeed, want, place := plainVerify(code)
	if need, e, at := Verify(code); need != wantNeed || e != want || at != place {
		p, _, _ := plainRead(code)
		t.Fatalf("P6: Verify(%q) = %v, %d, %d, want %v, %d, %d (%v)", code, need, e, at, wantNeed, want, place, p)
	}
	return want
}

func TestVerifyOfMadeUpCode(t *testing.T) {
	m := maker{rand.New(rand.NewSource(6))}
	told := map[api.Errno]int{}
	for range 20000 {
		p := m.code(1 + m.Intn(5))
		if e := checkVerify(t, p.code()); e != api.OK && e != api.ErrRefer {
			t.Fatalf("made-up code cannot be run: %d (%v)", e, p)
		}
		for range 1 + m.Intn(3) {
			if len(p.instructions) > 0 {
				p = m.bend(p)
			}
			told[checkVerify(t, p.code())]++
		}
	}
	for _, e := range []api.Errno{api.OK, api.ErrRefer, api.ErrStack} {
		if told[e] < 2000 {
			t.Errorf("%d is told only %d times", e, told[e])
		}
	}
}

func TestVerifyOfSpoiltBytes(t *testing.T) {
	m := maker{rand.New(rand.NewSource(7))}
	told := map[api.Errno]int{}
	for range 20000 {
		body := []byte(m.code(1 + m.Intn(3)).body())
		for range 1 + m.Intn(2) {
			at := []int{m.Intn(len(body)), m.Intn(20), len(body) - 1 - m.Intn(9)}[m.Intn(3)]
			switch m.Intn(4) {
			case 0:
				body[at] = byte(m.Intn(256))
			case 1:
				body[at] += byte(1 - 2*m.Intn(2))
			case 2:
				body = slices.Insert(body, at, byte(m.Intn(16)))
			default:
				body = append(slices.Delete(body, at, at+1), 0)
			}
		}
		code := sealed(string(body))
		told[checkVerify(t, code)]++
		told[checkVerify(t, string(body)+m.pick("\x00\x00\x00\x00", "abcd"))]++
		told[checkVerify(t, code[:m.Intn(len(code))])]++
	}
	for _, e := range []api.Errno{api.OK, api.ErrCode, api.ErrSum, api.ErrRefer, api.ErrStack} {
		if told[e] < 200 {
			t.Errorf("%d is told only %d times", e, told[e])
		}
	}
}

// P7, and that code that was looked over never goes wrong.
func TestExecOfMadeUpCode(t *testing.T) {
	m := maker{rand.New(rand.NewSource(8))}
	run := 0
	for run < 8000 {
		p := m.code(1 + m.Intn(6))
		if m.Intn(2) == 0 {
			p = m.bend(p)
		}
		code, store, span := p.code(), m.store(), m.span()
		if _, e, at := Verify(code); e != api.OK {
			checkNoExec(t, code, store, span, api.MaxFuel, e, at)
			continue
		}
		run++
		want, fuel := plainRun(t, p, store, span)
		checkExec(t, code, store, span, api.MaxFuel, want)
		checkExec(t, code, store, span, fuel, want)
		checkNoExec(t, code, store, span, fuel-1, api.ErrFuel, 0)
		checkNoExec(t, code, store, span, m.Intn(fuel), api.ErrFuel, 0)
		if t.Failed() {
			return
		}
	}
}
