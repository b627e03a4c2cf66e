package gauge

import (
	"strings"
	"testing"

	"gauge/api"
)

func repeat(text string, times int) string { return strings.Repeat(text, times) }

func checkPrinted(t *testing.T, query, want string) {
	t.Helper()
	if got, e, at := Print(query); got != want || e != api.OK || at != 0 {
		t.Errorf("P3: Print(%q) = %q, %d, %d, want %q", query, got, e, at, want)
	}
}

func checkRefused(t *testing.T, query string, want api.Errno, place int) {
	t.Helper()
	if got, e, at := Print(query); got != "" || e != want || at != place {
		t.Errorf("P3: Print(%.60q) = %q, %d, %d, want %d, %d", query, got, e, at, want, place)
	}
}

func TestPrintExamples(t *testing.T) {
	for _, c := range []struct{ query, want string }{
		{"a+b*c", "a + b * c"},
		{"(a + b) * - (c)", "(a + b) * -c"},
		{"a - (b - c) - d", "a - (b - c) - d"},
		{"-(a*b)", "-(a * b)"},
		{"(a or b) + c", "(a or b) + c"},
		{`a{}+ cpu{x="1" , y!=""}`, `a + cpu{x="1",y!=""}`},
		{"sum by(b , a)( (total( a [5] )) )", "sum by (b,a) (total(a[5]))"},
	} {
		checkPrinted(t, c.query, c.want)
	}
}

func TestPrintBrackets(t *testing.T) {
	for _, c := range []struct{ query, want string }{
		{"(1)", "1"}, {"((a))", "a"}, {"(-a)", "-a"}, {"-(-(a))", "--a"}, {"-(sum by () (a))", "-sum by () (a)"}, {"-(low(a[2]))", "-low(a[2])"},
		{"(a * b) * c", "a * b * c"}, {"a * (b * c)", "a * (b * c)"}, {"a * (b / c)", "a * (b / c)"}, {"a / (b * c)", "a / (b * c)"},
		{"(a + b) + c", "a + b + c"}, {"a + (b + c)", "a + (b + c)"}, {"a + (b - c)", "a + (b - c)"}, {"a - (b + c)", "a - (b + c)"},
		{"(a * b) + c", "a * b + c"}, {"a + (b * c)", "a + b * c"}, {"(a + b) * c", "(a + b) * c"}, {"a * (b + c)", "a * (b + c)"},
		{"(a or b) or c", "a or b or c"}, {"a or (b or c)", "a or (b or c)"}, {"(a + b) or (c * d)", "a + b or c * d"}, {"a + (b or c)", "a + (b or c)"}, {"(a or b) * c", "(a or b) * c"}, {"a * (b or c)", "a * (b or c)"},
		{"-(a + b)", "-(a + b)"}, {"-(a or b)", "-(a or b)"}, {"(-a) - (-b)", "-a - -b"},
		{"sum by () ((a or b))", "sum by () (a or b)"}, {"(sum by () (a)) * (low(b[1]))", "sum by () (a) * low(b[1])"},
	} {
		checkPrinted(t, c.query, c.want)
	}
}

func TestPrintBlanksAndWords(t *testing.T) {
	for _, c := range []struct{ query, want string }{
		{" 0 ", "0"}, {"1000000000", "1000000000"}, {"  a  ", "a"}, {"a{ }", "a"}, {"total ( a { } [ 1 ] )", "total(a[1])"},
		{"count  by  (  )  (  a  )", "count by () (a)"}, {"sum by(sum,or,by,total,b,b)(a)", "sum by (sum,or,by,total,b,b) (a)"},
		{`a{ or = "or" , sum != "" , or = "or" }`, `a{or="or",sum!="",or="or"}`}, {`a{b="00000000"}`, `a{b="00000000"}`},
		{"(a)or(b)", "a or b"}, {"1-1", "1 - 1"}, {"1- -1", "1 - -1"}, {"ora + byb + summ", "ora + byb + summ"}, {"abcdefgh", "abcdefgh"},
		{"total(a[1000]) + peak(a[999]) + low(a[10]) + size(a[2]) + rise(a[1])", "total(a[1000]) + peak(a[999]) + low(a[10]) + size(a[2]) + rise(a[1])"},
		{"sum by (a) (max by (b) (min by (c) (count by (d) (e))))", "sum by (a) (max by (b) (min by (c) (count by (d) (e))))"},
	} {
		checkPrinted(t, c.query, c.want)
	}
}

func TestPrintLong(t *testing.T) {
	checkPrinted(t, repeat(" ", 299)+"a", "a")
	checkPrinted(t, repeat("a+", 149)+"a", repeat("a + ", 149)+"a")
	checkRefused(t, repeat(" ", 300)+"a", api.ErrLong, 0)
	checkRefused(t, repeat("!", 301), api.ErrLong, 0)
	checkRefused(t, repeat("-", 301), api.ErrLong, 0)
	checkRefused(t, repeat("!", 300), api.ErrSyntax, 0)
}

func TestPrintSyntaxExamples(t *testing.T) {
	for _, c := range []struct {
		query string
		place int
	}{
		{"", 0}, {"a +", 3}, {"a b", 2}, {"05", 0}, {"1000000001", 0}, {"abcdefghi", 0}, {"total(a)", 7},
	} {
		checkRefused(t, c.query, api.ErrSyntax, c.place)
	}
}

func TestPrintSyntaxOfTokens(t *testing.T) {
	for _, c := range []struct {
		query string
		place int
	}{
		{"  ", 2}, {"a\n", 1}, {"a\tb", 1}, {"a\r", 1}, {"\xff", 0}, {"é", 0}, {"a + é", 4}, {"aA", 1}, {"a1", 1}, {"1a", 1},
		{"00", 0}, {"a + 01", 4}, {"a + 1000000001", 4}, {"1 + " + repeat("9", 200), 4}, {"a + abcdefghi", 4}, {"a + abcdefgh i", 13},
		{"!", 0}, {"a{b!", 3}, {"a{b! =\"\"}", 3}, {`a{b="`, 4}, {`a{b="a`, 4}, {`a{b="abcdefgh`, 4}, {`a{b="abcdefghi"}`, 4}, {`a{b="é"}`, 4}, {`a{b=" "}`, 4}, {`a{b='a'}`, 4},
		{"a;b", 1}, {"a.b", 1}, {"a == b", 2}, {"a % b", 2},
		// A token that cannot stand counts ahead of a wrong one behind it.
		{"a b 05", 2}, {"a) !", 1},
	} {
		checkRefused(t, c.query, api.ErrSyntax, c.place)
	}
}

func TestPrintSyntaxOfParts(t *testing.T) {
	for _, c := range []struct {
		query string
		place int
	}{
		{"(", 1}, {"(a ", 3}, {"(a]", 2}, {"()", 1}, {")", 0}, {"(a))", 3}, {"a + + b", 4}, {"a + * b", 4}, {"- ", 2}, {"-+a", 1}, {"* a", 0}, {"a or", 4}, {"or a", 0}, {"by", 0}, {"a by b", 2}, {"-or", 1}, {"a,b", 1}, {`"a"`, 0}, {"a{}a", 3}, {"{}", 0}, {"[5]", 0}, {"1[5]", 1}, {"a = 1", 2},
		{"sum", 3}, {"sum{}", 3}, {"sum a", 4}, {"sum(a)", 3}, {"sum by a", 7}, {"sum by (", 8}, {"sum by (1)", 8}, {`sum by ("a")`, 8}, {"sum by (a,", 10}, {"sum by (a,)", 10}, {"sum by (,)", 8}, {"sum by (a a)", 10}, {"sum by (abcdefghi)", 8}, {"sum by (a)", 10}, {"sum by (a) a", 11}, {"sum by (a) (", 12}, {"sum by (a) (a", 13}, {"sum by () () ", 11}, {"sum sum by () (a)", 4},
		{"rise", 4}, {"rise a", 5}, {"rise(", 5}, {"rise()", 5}, {"rise(1", 5}, {"rise(-a[1])", 5}, {"rise((a)[1])", 5}, {"rise(by[1])", 5}, {"rise(sum[1])", 5}, {"rise(low[1])", 5}, {"rise(a", 6}, {"rise(a{}", 8}, {"rise(a[", 7}, {"rise(a[a])", 7}, {"rise(a[-1])", 7}, {"rise(a[0])", 7}, {"rise(a[1001])", 7}, {"rise(a[01])", 7}, {"rise(a[1", 8}, {"rise(a[1 2])", 9}, {"rise(a[1]", 9}, {"rise(a[1]]", 9}, {"rise(a + a[1])", 7}, {"rise by (a) (b)", 5},
		{"a{", 2}, {"a{,}", 2}, {"a{b", 3}, {"a{b}", 3}, {"a{b=", 4}, {"a{b=}", 4}, {"a{b=c}", 4}, {"a{b=1}", 4}, {`a{b="c"`, 7}, {`a{b="c",`, 8}, {`a{b="c",}`, 8}, {`a{b="c";}`, 7}, {`a{b="c" d="e"}`, 8}, {`a{1="c"}`, 2}, {`a{abcdefghi="c"}`, 2}, {`a{"b"="c"}`, 2}, {`a{b<"c"}`, 3},
	} {
		checkRefused(t, c.query, api.ErrSyntax, c.place)
	}
}

func TestPrintDeep(t *testing.T) {
	checkPrinted(t, repeat("-", 19)+"a", repeat("-", 19)+"a")
	checkPrinted(t, repeat("(", 19)+"a + a"+repeat(")", 19), "a + a")
	checkPrinted(t, repeat("sum by () (", 19)+"a"+repeat(")", 19), repeat("sum by () (", 19)+"a"+repeat(")", 19))
	// The selector of a window, and what stands beside, is no deeper.
	checkPrinted(t, repeat("-", 19)+`low(a{b="c"}[5])`, repeat("-", 19)+`low(a{b="c"}[5])`)
	checkPrinted(t, repeat("a+(b)*", 40)+"c", repeat("a + b * ", 40)+"c")
	for _, begin := range []string{"a", "7", "-a", "(a)", "sum by () (a)", "low(a[5])"} {
		checkRefused(t, repeat("-", 20)+begin, api.ErrDeep, 20)
		checkRefused(t, repeat(" (", 20)+" "+begin, api.ErrDeep, 41)
		checkRefused(t, repeat("sum by () (", 20)+begin, api.ErrDeep, 220)
		checkRefused(t, repeat("-(", 10)+begin, api.ErrDeep, 20)
	}
	checkRefused(t, "a + "+repeat("(", 30), api.ErrDeep, 24)
	checkRefused(t, repeat("(a+", 20)+"a", api.ErrDeep, 58)
}

func TestPrintDeepOrSyntax(t *testing.T) {
	// What can begin no FACTOR is no FACTOR that is too deep.
	for _, begin := range []string{"", ")", "or", "by", "+", "!", "05", "1000000001", "abcdefghi", `""`, "A"} {
		checkRefused(t, repeat("-", 20)+begin, api.ErrSyntax, 20)
	}
	// What stands first counts, of these two; a kind counts behind both.
	checkRefused(t, "a b "+repeat("-", 30)+"a", api.ErrSyntax, 2)
	checkRefused(t, repeat("-", 20)+"a b", api.ErrDeep, 20)
	checkRefused(t, repeat("-", 21)+"!", api.ErrDeep, 20)
	checkRefused(t, "1 or "+repeat("-", 20)+"a", api.ErrDeep, 25)
	checkRefused(t, "1 or a +", api.ErrSyntax, 8)
}

func TestPrintType(t *testing.T) {
	for _, query := range []string{
		"1 or a", "a or 1", "1 or 2", "a or -1", "(1 + 2) or a", "a or b or 1", "a or (1 or b)", "a or 1 * 2",
		"sum by () (1)", "max by (a) (-(1 + 2))", "min by () (2 * 3 / 4)", "count by () (1 - 1)",
		"a + sum by () (1)", "-(1 or a)", "1 + (a or 1)", "sum by () (1 or a)", "a * (b - count by () (1))",
	} {
		checkRefused(t, query, api.ErrType, 0)
	}
	for _, query := range []string{"a or 1 + b", "sum by () (1 * a)", "a or -b", "1 + 2 - 3 * 4 / 5", "a or sum by () (b)", "a or low(b[1])"} {
		checkPrinted(t, query, query)
	}
}
