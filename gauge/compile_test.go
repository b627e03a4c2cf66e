package gauge

import (
	"math"
	"strings"
	"testing"

	"gauge/api"
	"gauge/syntax"
)

// compiled gives the code of a query, and what it is made of.
func compiled(t *testing.T, query string, flags int) (string, parts) {
	t.Helper()
	code, e, at := Compile(query, flags)
	if e != api.OK || at != 0 {
		t.Fatalf("P8: Compile(%q, %d) = %q, %d, %d", query, flags, code, e, at)
	}
	p, e, at := plainRead(code)
	if e != api.OK {
		t.Fatalf("P8: Compile(%q, %d) is no code: %q, %d, %d", query, flags, code, e, at)
	}
	return code, p
}

func (p parts) length() int { return len(p.instructions) / 2 }

// count tells how many instructions are one of these.
func (p parts) count(ops ...int) int {
	found := 0
	for i := range p.length() {
		for _, op := range ops {
			if p.instructions[2*i] == op {
				found++
			}
		}
	}
	return found
}

// checkCompile looks at the code of a query with all flags.
func checkCompile(t *testing.T, query, store string, span api.Span) {
	t.Helper()
	want := plainAnswer(t, query, store, span)
	checkEval(t, query, store, span, want)
	for flags := range 8 {
		code, p := compiled(t, query, flags)
		if need, e, at := Verify(code); e != api.OK || at != 0 || need.Stack < 1 {
			t.Errorf("P8: Verify of Compile(%q, %d) = %v, %d, %d (%v)", query, flags, need, e, at, p)
			continue
		}
		if _, e, at := plainVerify(code); e != api.OK {
			t.Errorf("P8: Compile(%q, %d) cannot be done: %d, %d (%v)", query, flags, e, at, p)
		}
		if got, e, at := Exec(code, store, span, api.MaxFuel); got != want || e != api.OK || at != 0 {
			t.Errorf("P8: Exec of Compile(%q, %d) on %q, %v = %q, %d, %d, want %q (%v)", query, flags, store, span, got, e, at, want, p)
		}
		if p.length()*api.MaxSteps > api.MaxFuel {
			t.Errorf("P8: Compile(%q, %d) may run out of fuel: %d instructions", query, flags, p.length())
		}
		if flags&api.Fold != 0 {
			checkFolded(t, query, flags, p)
		}
		if flags&api.Thread != 0 {
			checkThreaded(t, query, flags, p)
		}
	}
}

// checkFolded looks whether a scalar is made of others. As each part leaves
// one value behind, the kinds can be followed without the jumps.
func checkFolded(t *testing.T, query string, flags int, p parts) {
	t.Helper()
	kinds := plainKinds{"", strings.Repeat(".", 16)}
	for i := range p.length() {
		op, argument := p.instructions[2*i], p.instructions[2*i+1]
		if op == api.OpArith && strings.HasSuffix(kinds.stack, "ss") || op == api.OpNeg && strings.HasSuffix(kinds.stack, "s") || op == api.OpStore && strings.HasSuffix(kinds.stack, "s") {
			t.Errorf("P8: Fold: Compile(%q, %d): instruction %d is done with scalars alone (%v)", query, flags, i, p)
			return
		}
		kinds, _ = kinds.do(p, op, argument, kinds.slots)
	}
	if kinds.stack == "s" && p.length() != 1 {
		t.Errorf("P8: Fold: Compile(%q, %d) has %d instructions", query, flags, p.length())
	}
}

func checkThreaded(t *testing.T, query string, flags int, p parts) {
	t.Helper()
	isJump := func(i int) bool {
		return i < p.length() && (p.instructions[2*i] == api.OpJump || p.instructions[2*i] == api.OpFull)
	}
	for i := range p.length() {
		if isJump(i) && isJump(p.instructions[2*i+1]) {
			t.Errorf("P8: Thread: Compile(%q, %d): the jump %d leads to a jump (%v)", query, flags, i, p)
		}
	}
}

// checkShared looks at the code of a query and at that of its sum with
// itself.
func checkShared(t *testing.T, query string) {
	t.Helper()
	twice := "(" + query + ")+(" + query + ")"
	if _, e, _ := Print(twice); e != api.OK {
		return
	}
	for _, flags := range []int{2, 3, 6, 7} {
		_, once := compiled(t, query, flags)
		if _, p := compiled(t, twice, flags); p.length() > once.length()+4 {
			t.Errorf("P8: Share: Compile(%q, %d) has %d instructions, twice %d (%v)", query, flags, once.length(), p.length(), p)
		}
	}
}

// fixedQueries are of all sorts, up to the limits.
func fixedQueries() []string {
	queries := []string{
		"5", "-5", "--5", "0", "-0", "1000000000", "-1000000000", "1 + 2 * 3 - 4 / 2", "7 / 0", "1000000000 * 1000000000", "c", "-c", "--c", "c{}", `c{h="a",j!="x"}`, "c + d", "c + 1", "1 - c", "c * c / 2", "c - 1 - 2", "1 - 2 - c", "c / (1 - 1)",
		"total(c[4])", "peak(c[1])", "low(c[1000])", "size(c[2])", "rise(c[3])", `rise(c{h!="b"}[3]) - low(c[2])`, "total(c[3]) - size(c[3])", "total(c[3]) - total(c[4])",
		"sum by () (c)", "max by (h) (c + c)", "min by (j) (c)", "count by (j,h,j) (c or d)", "sum by (or,by,sum) (c)", "sum by (h,j) (c) - sum by (j,h) (c)", "sum by (h) (sum by (h) (c))",
		"d or c", "(d or c) + (c or d)", "e or d or c", "e or (d or c)", "(e or e) or (e or c)", "((c or d) or (c or d)) or ((c or d) or (c or d))", "e or e or e or e or d", "(e or (e or (e or d))) or c", "-(e or d)", "sum by () (e or d) or sum by () (c or e)",
		"(c + d) * (c + d)", "sum by (h) (c) - sum by (h) (c)", "total(c[3]) / total(c[3]) + total(c[3])", "e or total(c[3]) + total(c[3])", "(total(c[3]) or d) - (total(c[3]) or d)", "(d + (1 + 1)) * (d + (1 + 1))", "-(c + 1) - -(c + 1)", "(1 + 2) * (1 + 2)",
		"(e or c + 1) + (c + 1)", "(c + 1) + (e or c + 1)", "(d or c + 1) - (e or c + 1)", "((e or c + 1) + 1 or c) - (c + 1)", "(d or c + 1) or (e or c + 1) or c + 1", "sum by () (d or -(c + 1) * 2) or -(c + 1) * 2 + (c + 1)", "(d or (c + 1) * (c + 1)) + (c + 1)", "(e or (d or c + 1) - (c + 1)) / (c + 1)",
	}
	return append(queries,
		repeat("c+", 149)+"c", repeat("1-", 149)+"1", repeat("1/c-", 74)+"7", repeat("c + c*(", 19)+"d"+repeat(")", 19), repeat("-", 19)+"c", repeat("-", 19)+"7", repeat("(", 19)+"c"+repeat(")", 19), "c{"+repeat(`h!="abcdefgh",`, 20)+`j=""}`, `total(c{h!="abcdefgh",`+repeat(`h!="",`, 44)+`j=""}[10])`,
		"e"+repeat(" or e", 58)+" or d", repeat("e or (", 19)+"c"+repeat(")", 19), repeat("c-(e or ", 19)+"c"+repeat(")", 19), repeat("(", 19)+"e"+repeat(" or d)", 19), repeat("1+c*(e or ", 19)+"c"+repeat(")", 19), repeat("sum by()(", 19)+"c"+repeat(")", 19),
		"count by ("+repeat("h,", 130)+"j) (c)", "count by ("+allLetters()+") (c)",
	)
}

func allLetters() string {
	var names []string
	for c := byte('z'); c >= 'a'; c-- {
		names = append(names, string(c), string([]byte{c, 'a'}))
	}
	return strings.Join(names, ",")
}

const moreSeries = "c{h=a} 1:5 4:8\nc{h=b} 4:2\nd{h=a} 4:3\nc{h=a,j=x} 2:100 3:-50\nc{} 30:1000000000"

func TestCompileFixedQueries(t *testing.T) {
	for _, query := range fixedQueries() {
		checkCompile(t, query, moreSeries, spanOf(0, 16, 1))
		checkCompile(t, query, moreSeries, spanOf(-3, 1000, 21))
		checkCompile(t, query, "", spanOf(7, 7, 1))
		checkShared(t, query)
	}
}

// The longest answers, on the greatest stores, do not run out of fuel.
func TestCompileAtTheLimits(t *testing.T) {
	store := strings.ReplaceAll(manySeries(30), "}", "} 0:1 10:2 20:3 30:4 40:5 50:6")
	for _, query := range []string{repeat("c+", 149) + "c", repeat("-", 18) + "sum by () (c)", "sum by () (total(c[1000])) or c"} {
		checkCompile(t, query, store, spanOf(0, 49, 1))
	}
}

func TestCompileErrors(t *testing.T) {
	wrongFlags := []int{math.MinInt, -8, -1, 8, 9, 16, 255, 1 << 32, math.MaxInt}
	for _, flags := range append(wrongFlags, 0, 1, 2, 3, 4, 5, 6, 7) {
		checkNoCompile(t, repeat("a", 301), flags, api.ErrLong, 0)
		checkNoCompile(t, "", flags, api.ErrSyntax, 0)
		checkNoCompile(t, "a +", flags, api.ErrSyntax, 3)
		checkNoCompile(t, "a b", flags, api.ErrSyntax, 2)
		checkNoCompile(t, "c + 1000000001", flags, api.ErrSyntax, 4)
		checkNoCompile(t, repeat("-", 25)+"a", flags, api.ErrDeep, 20)
		checkNoCompile(t, "1 or a", flags, api.ErrType, 0)
		checkNoCompile(t, "sum by () (1 + 2)", flags, api.ErrType, 0)
	}
	for _, flags := range wrongFlags {
		checkNoCompile(t, "a", flags, api.ErrRefer, 0)
		checkNoCompile(t, "1", flags, api.ErrRefer, 0)
	}
}

func checkNoCompile(t *testing.T, query string, flags int, want api.Errno, place int) {
	t.Helper()
	if code, e, at := Compile(query, flags); code != "" || e != want || at != place {
		t.Errorf("P8: Compile(%.60q, %d) = %q, %d, %d, want %d, %d", query, flags, code, e, at, want, place)
	}
}

func TestCompileFoldsScalars(t *testing.T) {
	for query, want := range map[string]int{
		"5": 5, "-5": -5, "--5": 5, "-0": 0, "1 + 2": 3, "(1 + 2) * -(3 - 4) / 0": 0, "(1 + 2) * -(3 - 4)": 3, "-7 / 2": -3, "7 / -2": -3, "1000000000 + 1 - 1": 999999999, "-1000000000 - 1": -1000000000, "1000000000 * 1000000000": 1000000000, "100000 * -100000": -1000000000, "20 / 3 / 2": 3, "20 / (3 / 2)": 20, repeat("1-", 149) + "1": -148,
	} {
		for _, flags := range []int{1, 3, 5, 7} {
			if _, p := compiled(t, query, flags); p.length() != 1 || p.count(api.OpConst) != 1 || len(p.constants) != 1 || p.constants[0] != want {
				t.Errorf("P8: Fold: Compile(%q, %d) = %v, want the constant %d", query, flags, p, want)
			}
		}
	}
}

// With a number in a scalar's place code is as long: as many instructions,
// and as many bytes.
func TestCompileFoldIsAsLong(t *testing.T) {
	for _, c := range []struct{ frame, scalar, number string }{
		{"c + #", "(1 + 2) * 3", "9"}, {"c + #", "-(1 + 2)", "9"}, {"# - c", "1 + 2 * 3", "7"}, {"c * # / #", "(2 - 3)", "5"}, {"c + # + 3", "(1 + 2)", "3"}, {"c + # + 3", "(1 + 2)", "8"}, {"3 * c + #", "(4 - 1)", "8"}, {"c + 3 + 3 + #", "(1 + 1)", "3"},
		{"sum by (h) (c - #) or c / #", "(2 * 2)", "4"}, {"-(c - #) * #", "--2", "2"}, {"(c + #) * (c + #)", "(1 + 1)", "2"}, {"(c + #) * (c + 2)", "(1 + 1)", "2"}, {"e or c + # or d - #", "(7 / 2)", "3"}, {"#", "(1 - 9) / 2", "4"}, {"# + # + c", "-3", "6"},
	} {
		for _, flags := range []int{1, 3, 5, 7} {
			long, p := compiled(t, strings.ReplaceAll(c.frame, "#", c.scalar), flags)
			short, q := compiled(t, strings.ReplaceAll(c.frame, "#", c.number), flags)
			if p.length() != q.length() || len(long) != len(short) {
				t.Errorf("P8: Fold: %s with %s is %v, with %s %v (%d)", c.frame, c.scalar, p, c.number, q, flags)
			}
		}
	}
}

// What stands there twice is worked out once: just one instruction is the
// last one of each part, wherever it stands.
func TestCompileSharesParts(t *testing.T) {
	for query, want := range map[string]int{
		"total(c[3]) + total(c[3])": 1, "total(c[3]) / total(c[3]) + total(c[3])": 1, "total(c[3]) - total(c[4])": 2, "total(c[3]) - peak(c[3])": 2, "e or total(c[3]) + total(c[3])": 1, "(e or total(c[3])) + total(c[3])": 1, "(d or total(c[3])) - (e or total(c[3]))": 1, "total(c[3]) or (e or total(c[3]))": 1, "(total(c[3]) or d) - (total(c[3]) or d)": 1, "sum by (h) (total(c[3])) - max by (h) (total(c[3]))": 1, "(e or -total(c[3]) * 2) + (d or size(c[3])) - -total(c[3]) / size(c[3])": 2,
	} {
		for _, flags := range []int{2, 3, 6, 7} {
			if _, p := compiled(t, query, flags); p.count(api.OpOver) != want {
				t.Errorf("P8: Share: Compile(%q, %d) has %d windows, want %d (%v)", query, flags, p.count(api.OpOver), want, p)
			}
		}
	}
}

// A slot that comes to be free in an or, and is filled in its second part,
// has that only if the second part was worked out.
func TestCompileSlotFilledInOr(t *testing.T) {
	var terms []string
	for _, sign := range []string{"*", "/"} {
		for _, digit := range strings.Split("12345678", "") {
			terms = append(terms, "a"+sign+digit)
		}
	}
	all, butFirst := strings.Join(terms, "+"), strings.Join(terms[1:], "-")
	for _, middle := range []string{"(a*1+z or a-5)+(a-5)", "(z or a*1+(a-5))+(a-5)", "(z or (a*1+z or a-5)+(a-5))+(a-5)", "(z or a*1 or a-5)*(z or a-5)", "(a*1+z or a-5)+(z or a-5)/(a-5)"} {
		query := all + "+" + middle + "-" + butFirst
		for _, store := range []string{"a{} 0:1000 3:7", "a{} 0:1000 3:7\nz{} 3:4", "a{h=x} 0:1000 3:7\nz{h=y} 1:4", "z{} 2:2"} {
			checkCompile(t, query, store, spanOf(0, 13, 1))
		}
		code, _ := compiled(t, query, api.Share)
		if need, _, _ := Verify(code); need.Slots != api.MaxSlots {
			t.Errorf("Compile(%q) needs %d slots only", query, need.Slots)
		}
	}
}

// partsOf tells how many parts there are in one, the same ones counted once:
// but for numbers, selectors and what has - ahead.
func partsOf(part syntax.Part) int {
	seen := map[string]bool{}
	var walk func(part syntax.Part)
	walk = func(part syntax.Part) {
		switch p := part.(type) {
		case syntax.Number, syntax.Selector:
			return
		case syntax.Negative:
			walk(p.Of)
			return
		case syntax.Pair:
			walk(p.Left)
			walk(p.Right)
		case syntax.Group:
			walk(p.Of)
		}
		seen[syntax.Print(part)] = true
	}
	walk(part)
	return len(seen)
}

// madeParts counts the instructions of which there is one for each such part
// that is worked out.
func (p parts) madeParts() int {
	return p.count(api.OpOver, api.OpArith, api.OpSum, api.OpMax, api.OpMin, api.OpCount, api.OpFull)
}
