package gauge

import (
	"math/rand"
	"regexp"
	"slices"
	"strconv"
	"strings"
	"testing"

	"gauge/api"
	"gauge/syntax"
)

// dense makes up a query in which many parts stand more than once: what was
// made is put in again.
func (m maker) dense(depth int, made *[]sample) sample {
	if len(*made) > 0 && m.Intn(5) < 2 {
		return (*made)[m.Intn(len(*made))]
	}
	s := m.denseAnew(depth, made)
	*made = append(*made, s)
	return s
}

func (m maker) denseAnew(depth int, made *[]sample) sample {
	choice := m.Intn(10)
	switch {
	case depth == 0 && choice < 6:
		name := m.pick("a", "b", `a{x="1"}`)
		return sample{printed: name, line: 3, vector: true}
	case depth == 0 && choice < 8:
		return sample{printed: m.pick("total", "low") + "(a[" + m.pick("3", "9") + "])", line: 3, vector: true}
	case depth == 0:
		return sample{printed: strconv.Itoa(m.Intn(3)), line: 3}
	case choice == 0:
		of := m.densePart(depth-1, 3, made)
		return sample{printed: "-" + of.printed, line: 3, vector: of.vector}
	case choice < 3:
		of := m.denseVector(depth-1, 0, made)
		return sample{printed: m.pick("sum", "count") + " by (" + m.pick("x", "x,or") + ") (" + of.printed + ")", line: 3, vector: true}
	case choice < 6:
		x, y := m.denseVector(depth-1, 0, made), m.denseVector(depth-1, 1, made)
		return sample{printed: x.printed + " or " + y.printed, vector: true}
	}
	line := 1 + m.Intn(2)
	x, y := m.densePart(depth-1, line, made), m.densePart(depth-1, line+1, made)
	sign := [][]string{{"+", "-"}, {"*", "/"}}[line-1][m.Intn(2)]
	return sample{printed: x.printed + " " + sign + " " + y.printed, line: line, vector: x.vector || y.vector}
}

func (m maker) densePart(depth, least int, made *[]sample) sample {
	s := m.dense(depth, made)
	if s.line < least {
		s.printed = "(" + s.printed + ")"
	}
	return s
}

func (m maker) denseVector(depth, least int, made *[]sample) sample {
	s := m.densePart(depth, least, made)
	if s.vector {
		return s
	}
	return sample{printed: m.pick("a", "b"), line: 3, vector: true}
}

// crowd makes up a query of which more parts are needed at once than there
// are slots: each part stands there twice, far from itself.
func (m maker) crowd() string {
	const signs = "+-*/"
	var all []string
	for range 15 + m.Intn(12) {
		one := "(" + m.pick("a", "b") + string(signs[m.Intn(4)]) + strconv.Itoa(m.Intn(10)) + ")"
		all = append(all, one)
	}
	all = append(all, all...)
	m.Shuffle(len(all), func(i, j int) { all[i], all[j] = all[j], all[i] })
	for len(all) > 1 {
		at := m.Intn(len(all) - 1)
		sign := m.pick("+", "-", "*", "/", " or ")
		one := all[at] + sign + all[at+1]
		if m.Intn(5) == 0 {
			one = "(" + one + ")"
		}
		all = slices.Replace(all, at, at+2, one)
	}
	return all[0]
}

func TestCompileOfMadeUpQueries(t *testing.T) {
	m := maker{rand.New(rand.NewSource(9))}
	for asked := 0; asked < 3000 && !t.Failed(); {
		query := m.query(1 + m.Intn(5)).loose
		if _, e, at := Print(query); e != api.OK {
			checkNoCompile(t, query, m.Intn(12)-2, e, at)
			continue
		}
		asked++
		checkCompile(t, query, m.store(), m.span())
		checkShared(t, query)
	}
}

// P9, of code: its answer does not hang on the order of the store's lines.
func TestCompileWhateverTheOrder(t *testing.T) {
	m := maker{rand.New(rand.NewSource(14))}
	for asked := 0; asked < 500 && !t.Failed(); {
		query, store, span := m.query(1+m.Intn(4)).printed, m.store(), m.span()
		if _, e, _ := Print(query); e != api.OK {
			continue
		}
		asked++
		code, _ := compiled(t, query, m.Intn(8))
		lines := strings.Split(store, "\n")
		m.Shuffle(len(lines), func(i, j int) { lines[i], lines[j] = lines[j], lines[i] })
		checkExec(t, code, strings.Join(lines, "\n\n"), span, api.MaxFuel, plainAnswer(t, query, store, span))
	}
}

func TestCompileOfDenseQueries(t *testing.T) {
	m := maker{rand.New(rand.NewSource(10))}
	shared := 0
	for asked := 0; asked < 3000 && !t.Failed(); {
		query := m.dense(1+m.Intn(7), new([]sample)).printed
		if _, e, _ := Print(query); e != api.OK {
			continue
		}
		asked++
		checkCompile(t, query, m.store(), m.span())
		checkShared(t, query)
		shared += checkOnce(t, query)
	}
	if shared < 1000 {
		t.Errorf("only %d made-up queries have something twice", shared)
	}
}

// checkOnce looks whether each part is worked out once, and tells whether any
// stands there twice.
func checkOnce(t *testing.T, query string) int {
	t.Helper()
	part, err := syntax.Read(query)
	if err != nil {
		t.Fatal(err)
	}
	for _, flags := range []int{api.Share, api.Share | api.Thread} {
		code, p := compiled(t, query, flags)
		if need, _, _ := Verify(code); need.Slots < api.MaxSlots && p.madeParts() != partsOf(part) {
			t.Errorf("P8: Share: Compile(%q, %d) works %d parts out, there are %d (%v)", query, flags, p.madeParts(), partsOf(part), p)
		}
	}
	if _, p := compiled(t, query, 0); p.madeParts() > partsOf(part) {
		return 1
	}
	return 0
}

func TestCompileOfCrowdedQueries(t *testing.T) {
	m := maker{rand.New(rand.NewSource(11))}
	crowded := 0
	for asked := 0; asked < 600 && !t.Failed(); {
		query := m.crowd()
		if _, e, _ := Print(query); e != api.OK {
			continue
		}
		asked++
		checkCompile(t, query, m.store(), m.span())
		crowded += m.isCrowded(t, query)
	}
	if crowded < 100 {
		t.Errorf("only %d made-up queries need all slots", crowded)
	}
}

// isCrowded tells whether all slots are needed: 1 if so.
func (m maker) isCrowded(t *testing.T, query string) int {
	t.Helper()
	code, _ := compiled(t, query, api.Share)
	need, _, _ := Verify(code)
	return need.Slots / api.MaxSlots
}

// smallCrowd makes up a crowd that is short enough to stand there twice.
func (m maker) smallCrowd() string {
	var terms []string
	for _, start := range []string{"a*", "a/", "b*"} {
		for digit := range 10 {
			terms = append(terms, start+strconv.Itoa(digit))
		}
	}
	m.Shuffle(len(terms), func(i, j int) { terms[i], terms[j] = terms[j], terms[i] })
	terms = terms[:17]
	again := slices.Clone(terms)
	m.Shuffle(len(again), func(i, j int) { again[i], again[j] = again[j], again[i] })
	terms = append(terms, again...)
	query := terms[0]
	ors := m.Intn(4)
	for _, term := range terms[1:] {
		sign := m.pick("+", "-")
		if ors > 0 && m.Intn(10) == 0 {
			sign = " or "
			ors--
		}
		query += sign + term
	}
	return query
}

// Share holds of queries that take all slots, too.
func TestCompileSharesCrowds(t *testing.T) {
	m := maker{rand.New(rand.NewSource(12))}
	crowded := 0
	for range 400 {
		query := m.smallCrowd()
		checkShared(t, query)
		checkCompile(t, query, m.store(), m.span())
		crowded += m.isCrowded(t, query)
	}
	if crowded < 100 {
		t.Errorf("only %d made-up queries need all slots", crowded)
	}
}

// A number in a made-up query, and in its place a scalar of the same value.
func TestCompileFoldOfMadeUpQueries(t *testing.T) {
	m := maker{rand.New(rand.NewSource(13))}
	numbers := regexp.MustCompile(`(^|[ (-])(0|7|10|1000000000)($|[ )])`)
	for asked := 0; asked < 3000 && !t.Failed(); {
		query := m.query(2 + m.Intn(4)).printed
		frame := numbers.ReplaceAllString(query, "$1#$3")
		scalars := []string{"(0-1+1)", "(7)", "--7", "(3*3-2)", "(1-9)", "-(2/5)", "(1000000000*2)"}
		long := strings.ReplaceAll(frame, "#", scalars[m.Intn(len(scalars))])
		short := strings.ReplaceAll(frame, "#", "7")
		if _, e, _ := Print(long); e != api.OK || !strings.Contains(frame, "#") {
			continue
		}
		asked++
		for _, flags := range []int{api.Fold, api.Fold | api.Thread} {
			one, p := compiled(t, long, flags)
			two, q := compiled(t, short, flags)
			if len(one) != len(two) || p.length() != q.length() {
				t.Errorf("P8: Fold: Compile(%q, %d) is %v, with 7 %v", long, flags, p, q)
			}
		}
	}
}
