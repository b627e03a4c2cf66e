package gauge

import (
	"math"
	"math/rand"
	"slices"
	"strconv"
	"strings"
	"testing"

	"gauge/api"
)

func spanOf(first, last, step int) api.Span { return api.Span{First: first, Last: last, Step: step} }

func checkEval(t *testing.T, query, store string, span api.Span, want ...string) {
	t.Helper()
	if got, e, at := Eval(query, store, span); got != strings.Join(want, "\n") || e != api.OK || at != 0 {
		t.Errorf("P5: Eval(%q, %.60q, %v) = %q, %d, %d, want %q", query, store, span, got, e, at, want)
	}
}

func checkNoEval(t *testing.T, query, store string, span api.Span, want api.Errno, place int) {
	t.Helper()
	if got, e, at := Eval(query, store, span); got != "" || e != want || at != place {
		t.Errorf("P5: Eval(%.60q, %.60q, %v) = %q, %d, %d, want %d, %d", query, store, span, got, e, at, want, place)
	}
}

const fewSeries = "c{h=a} 1:5 4:8\nc{h=b} 4:2\nd{h=a} 4:3"

func TestEvalExamples(t *testing.T) {
	for _, c := range []struct{ query, one, four string }{
		{"c", "1 {h=a}5", "4 {h=a}8 {h=b}2"}, {"c + d", "1", "4 {h=a}11"}, {"sum by () (c)", "1 {}5", "4 {}10"}, {"rise(c[4])", "1 {h=a}0", "4 {h=a}3 {h=b}0"}, {"rise(c[3])", "1 {h=a}0", "4 {h=a}0 {h=b}0"}, {"10 / c", "1 {h=a}2", "4 {h=a}1 {h=b}5"}, {"d or c", "1 {h=a}5", "4 {h=a}3"}, {"7 - 3 * 2", "1 1", "4 1"}, {"1000000000 + 1", "1 1000000000", "4 1000000000"},
	} {
		checkEval(t, c.query, fewSeries, spanOf(1, 4, 3), c.one, c.four)
	}
	checkEval(t, "c", "c{a=1,b=2} 1:1\nc{a=1} 1:2", spanOf(1, 1, 1), "1 {a=1}2 {a=1,b=2}1")
}

func TestEvalArithmetic(t *testing.T) {
	for query, want := range map[string]int{
		"0": 0, "-0": 0, "1000000000": 1000000000, "---7": -7, "2 + 3 * 4 - 10 / 3": 11, "20 / 3 / 2": 3, "20 / (3 / 2)": 20, "9 - 4 - 3": 2, "9 - (4 - 3)": 8, "2 * 3 / 4 * 5": 5, "-7 / 2": -3, "7 / -2": -3, "-7 / -2": 3, "1 / 2": 0, "7 / 0": 0, "-7 / 0": 0, "0 / 0": 0, "7 / (1 - 1)": 0,
		"1000000000 + 1 - 1": 999999999, "-1000000000 - 1 + 1": -999999999, "1000000000 * 2 / 2": 500000000, "1000000000 * 1000000000": 1000000000, "-1000000000 * 1000000000": -1000000000, "1000000000 * 1000000000 * -1": -1000000000, "100000 * 100000 - 1000000000": 0, "1000000000 - -1000000000": 1000000000,
	} {
		checkEval(t, query, "", spanOf(3, 3, 1), "3 "+strconv.Itoa(want))
	}
}

// A scalar goes with each value of a vector, and stays on its side.
func TestEvalScalarWithVector(t *testing.T) {
	for query, want := range map[string]string{
		"100 - c": "{h=a}92 {h=b}98", "c - 100": "{h=a}-92 {h=b}-98", "20 / c": "{h=a}2 {h=b}10", "c / 3": "{h=a}2 {h=b}0", "c / 0": "{h=a}0 {h=b}0", "0 / (c - c)": "{h=a}0 {h=b}0", "(1 + 1) * c": "{h=a}16 {h=b}4", "c * -1": "{h=a}-8 {h=b}-2", "1000000000 + c": "{h=a}1000000000 {h=b}1000000000", "-1000000000 - c": "{h=a}-1000000000 {h=b}-1000000000",
	} {
		checkEval(t, query, fewSeries, spanOf(4, 4, 1), "4 "+want)
	}
	checkEval(t, "e + 1", fewSeries, spanOf(4, 4, 1), "4")
	checkEval(t, "1 / e", fewSeries, spanOf(4, 4, 1), "4")
}

func TestEvalVectorWithVector(t *testing.T) {
	store := "a{} 1:1\na{x=1} 1:2\na{x=2} 1:3\na{x=1,y=1} 1:4\nb{x=1} 1:10\nb{y=1} 1:20\nb{x=2,y=1} 1:30\nb{} 1:40\nb{x=1,y=1} 1:50"
	s := spanOf(1, 1, 1)
	checkEval(t, "a - b", store, s, "1 {}-39 {x=1}-8 {x=1,y=1}-46")
	checkEval(t, "b - a", store, s, "1 {}39 {x=1}8 {x=1,y=1}46")
	checkEval(t, "a + e", store, s, "1")
	checkEval(t, "e + a", store, s, "1")
	checkEval(t, `a{x="2"} * b`, store, s, "1")
	checkEval(t, "a - a", store, s, "1 {}0 {x=1}0 {x=1,y=1}0 {x=2}0")
}

func TestEvalSelectorLooksBack(t *testing.T) {
	store := "c{} 5:1 7:2 30:3"
	for time, want := range map[int]string{-1000000: "", 0: "", 4: "", 5: " {}1", 6: " {}1", 7: " {}2", 16: " {}2", 17: "", 29: "", 30: " {}3", 39: " {}3", 40: "", 1000000: ""} {
		checkEval(t, "c", store, spanOf(time, time, 1), strconv.Itoa(time)+want)
		checkEval(t, "c - c + c", store, spanOf(time, time, 1), strconv.Itoa(time)+want)
	}
	checkEval(t, "c", "c{} 0:4", spanOf(0, 9, 9), "0 {}4", "9 {}4")
	checkEval(t, "c", "c{} 1000000:4", spanOf(999999, 1000000, 1), "999999", "1000000 {}4")
}

func TestEvalConditions(t *testing.T) {
	store := "c{} 1:1\nc{a=1} 1:2\nc{a=1,b=1} 1:3\nc{a=2,b=1} 1:4\ncc{a=1} 1:5"
	for query, want := range map[string]string{
		"c{}": "{}1 {a=1}2 {a=1,b=1}3 {a=2,b=1}4", `c{a="1"}`: "{a=1}2 {a=1,b=1}3", `c{a!="1"}`: "{}1 {a=2,b=1}4", `c{a=""}`: "{}1", `c{a!=""}`: "{a=1}2 {a=1,b=1}3 {a=2,b=1}4", `c{b=""}`: "{}1 {a=1}2", `c{b="1",a="2"}`: "{a=2,b=1}4", `c{a!="1",a!=""}`: "{a=2,b=1}4", `c{z=""}`: "{}1 {a=1}2 {a=1,b=1}3 {a=2,b=1}4", `cc{a="1"}`: "{a=1}5", `c{b!="",a!="2"}`: "{a=1,b=1}3", `total(c{b="1"}[1])`: "{a=1,b=1}3 {a=2,b=1}4", `size(c{a!="1"}[5])`: "{}1 {a=2,b=1}1",
	} {
		checkEval(t, query, store, spanOf(1, 1, 1), "1 "+want)
	}
	for _, query := range []string{`c{a="1",a="2"}`, `c{a="",a!=""}`, `c{z!=""}`, `c{a="11"}`, "ccc", "a", `c{z="1"}`} {
		checkEval(t, query, store, spanOf(1, 1, 1), "1")
	}
}

func TestEvalWindows(t *testing.T) {
	store := "c{h=a} 1:4 2:-9 5:6 1000:1\nc{h=b} 5:-3\nc{h=c}"
	for _, c := range []struct {
		query string
		time  int
		want  string
	}{
		{"total(c[4])", 5, " {h=a}-3 {h=b}-3"}, {"total(c[5])", 5, " {h=a}1 {h=b}-3"}, {"peak(c[5])", 5, " {h=a}6 {h=b}-3"}, {"low(c[5])", 5, " {h=a}-9 {h=b}-3"}, {"size(c[5])", 5, " {h=a}3 {h=b}1"}, {"rise(c[5])", 5, " {h=a}2 {h=b}0"}, {"rise(c[4])", 5, " {h=a}15 {h=b}0"},
		{"size(c[1])", 5, " {h=a}1 {h=b}1"}, {"size(c[1])", 6, ""}, {"size(c[2])", 6, " {h=a}1 {h=b}1"}, {"size(c[3])", 4, " {h=a}1"}, {"size(c[2])", 4, ""}, {"size(c[1000])", 0, ""}, {"size(c[1000])", 1000, " {h=a}4 {h=b}1"}, {"size(c[999])", 1000, " {h=a}3 {h=b}1"}, {"size(c[1000])", 1005, " {h=a}1"}, {"size(c[1000])", 1999, " {h=a}1"}, {"size(c[1000])", 2000, ""},
		{"rise(c[1000])", 1000, " {h=a}-3 {h=b}0"}, {"size(c[500]) + c", 8, " {h=a}9 {h=b}-2"},
	} {
		checkEval(t, c.query, store, spanOf(c.time, c.time, 1), strconv.Itoa(c.time)+c.want)
	}
	checkEval(t, "total(c[9])", "c{} 1:1000000000 2:1000000000 3:-1000000000 4:-7", spanOf(1, 4, 1), "1 {}1000000000", "2 {}1000000000", "3 {}1000000000", "4 {}999999993")
	checkEval(t, "total(c[9])", "c{} 1:-1000000000 2:-1", spanOf(2, 2, 1), "2 {}-1000000000")
	checkEval(t, "rise(c[9])", "c{} 1:1000000000 2:-1000000000", spanOf(2, 2, 1), "2 {}-1000000000")
}

func TestEvalGroups(t *testing.T) {
	store := "c{a=1,b=1} 1:1\nc{a=1,b=2} 1:10\nc{a=2,b=1} 1:-100\nc{b=1} 1:1000\nc{} 1:10000\nc{a=11} 1:7"
	for query, want := range map[string]string{
		"sum by (a) (c)": " {}11000 {a=1}11 {a=11}7 {a=2}-100", "max by (a) (c)": " {}10000 {a=1}10 {a=11}7 {a=2}-100", "min by (a) (c)": " {}1000 {a=1}1 {a=11}7 {a=2}-100", "count by (a) (c)": " {}2 {a=1}2 {a=11}1 {a=2}1",
		"count by () (c)": " {}6", "count by (z) (c)": " {}6", "count by (b,a,b) (c)": " {}1 {a=1,b=1}1 {a=1,b=2}1 {a=11}1 {a=2,b=1}1 {b=1}1", "count by (z,b) (c)": " {}2 {b=1}3 {b=2}1", "sum by () (e)": "", "count by (a) (e)": "", "max by (b) (sum by (a) (c))": " {}11000", "sum by (b) (c) + 1": " {}10008 {b=1}902 {b=2}11", "min by () (-c)": " {}-10000",
	} {
		checkEval(t, query, store, spanOf(1, 1, 1), "1"+want)
	}
	greatest := "c{a=1} 1:1000000000\nc{a=2} 1:1000000000\nc{a=3} 1:-1000000000\nc{a=4} 1:-5"
	checkEval(t, "sum by () (c)", greatest, spanOf(1, 1, 1), "1 {}999999995")
	checkEval(t, `sum by () (c{a!="3"})`, greatest, spanOf(1, 1, 1), "1 {}1000000000")
	checkEval(t, `sum by () (-c{a!="3"})`, greatest, spanOf(1, 1, 1), "1 {}-1000000000")
	// What was in a group at one time is not in it at the next.
	checkEval(t, "sum by (h) (c)", "c{g=1,h=a} 1:1 20:2\nc{g=2,h=a} 1:4\nc{g=2,h=b} 9:8", spanOf(1, 21, 10), "1 {h=a}5", "11 {h=b}8", "21 {h=a}2")
}

func TestEvalOr(t *testing.T) {
	for _, c := range []struct{ query, one, four string }{
		{"d or c", "1 {h=a}5", "4 {h=a}3"}, {"c or d", "1 {h=a}5", "4 {h=a}8 {h=b}2"}, {"e or e", "1", "4"}, {"e or d or c", "1 {h=a}5", "4 {h=a}3"}, {"e or (d or c)", "1 {h=a}5", "4 {h=a}3"}, {"(d or c) - c", "1 {h=a}0", "4 {h=a}-5"}, {"d - d or c", "1 {h=a}5", "4 {h=a}0"}, {"sum by () (d or c) or e", "1 {}5", "4 {}3"}, {"-(d or -c)", "1 {h=a}5", "4 {h=a}-3"}, {"size(d[1]) or c{h=\"b\"} or 1 + c", "1 {h=a}6", "4 {h=a}1"},
	} {
		checkEval(t, c.query, fewSeries, spanOf(1, 4, 3), c.one, c.four)
	}
}

// By what stands between the braces, byte by byte: not name by name, and not
// by what closes them.
func TestEvalOrderOfLabels(t *testing.T) {
	checkEval(t, "c", "c{b=1} 1:1\nc{a=2} 1:2\nc{a=11} 1:3\nc{a=1,c=1} 1:4\nc{a=1} 1:5\nc{} 1:6\nc{aa=1} 1:7\nc{a=1a} 1:8\nc{a=1,b=9} 1:9", spanOf(1, 1, 1), "1 {}6 {a=1}5 {a=1,b=9}9 {a=1,c=1}4 {a=11}3 {a=1a}8 {a=2}2 {aa=1}7 {b=1}1")
}

func TestEvalTimes(t *testing.T) {
	checkEval(t, "1", "", spanOf(-1, 1, 1), "-1 1", "0 1", "1 1")
	checkEval(t, "1", "", spanOf(1, 9, 3), "1 1", "4 1", "7 1")
	checkEval(t, "1", "", spanOf(-1000000, 1000000, 1000000), "-1000000 1", "0 1", "1000000 1")
	for _, span := range []api.Span{spanOf(0, 49, 1), spanOf(-1000000, 960000, 40000), spanOf(0, 99, 2)} {
		if got, e, at := Eval("1", "", span); e != api.OK || at != 0 || strings.Count(got, "\n") != 49 {
			t.Errorf("P5: fifty times: Eval(1, %v) = %q, %d, %d", span, got, e, at)
		}
	}
	for _, span := range []api.Span{
		spanOf(0, 50, 1), spanOf(-1000000, 1000000, 40000), spanOf(0, 100, 2), spanOf(-1000000, 1000000, 1), spanOf(1, 0, 1), spanOf(0, 0, 0), spanOf(0, 0, -1), spanOf(0, 0, 1000001), spanOf(-1000001, -1000001, 1), spanOf(-1000001, 0, 1000000), spanOf(0, 1000001, 1000000), spanOf(1000001, 1000001, 1), spanOf(math.MinInt, math.MaxInt, 1), spanOf(math.MaxInt, math.MinInt, 1), spanOf(0, math.MaxInt, math.MaxInt), spanOf(math.MinInt, 0, math.MinInt), {},
	} {
		checkNoEval(t, "c", "", span, api.ErrTimes, 0)
	}
}

// P5 names the errors of the query first, then those of the store.
func TestEvalFirstNamed(t *testing.T) {
	bad := spanOf(1, 0, 0)
	for _, store := range []string{"", "x", "c{}\nc{}", manySeries(31), strings.Repeat("\n", 6001)} {
		checkNoEval(t, repeat("x", 301), store, bad, api.ErrLong, 0)
		checkNoEval(t, "a +", store, bad, api.ErrSyntax, 3)
		checkNoEval(t, repeat("-", 20)+"a", store, bad, api.ErrDeep, 20)
		checkNoEval(t, "1 or a", store, bad, api.ErrType, 0)
	}
	checkNoEval(t, "a", strings.Repeat("\n", 6001), bad, api.ErrLong, 0)
	checkNoEval(t, "a", "c{}\n\nx", bad, api.ErrStore, 2)
	checkNoEval(t, "a", "c{}\nd{}\nc{}", bad, api.ErrTwice, 2)
	checkNoEval(t, "a", manySeries(31), bad, api.ErrMany, 0)
	checkNoEval(t, "1", manySamples("a", 201), bad, api.ErrMany, 0)
	checkNoEval(t, "a", manySeries(30), bad, api.ErrTimes, 0)
	checkNoEval(t, "1", "x", spanOf(0, 0, 1), api.ErrStore, 0)
}

func TestEvalAtTheLimits(t *testing.T) {
	store := strings.ReplaceAll(manySeries(30), "}", "} 0:1 1:2 2:3 3:4 4:5 5:6")
	checkEval(t, "sum by () (total(c[1000]))", store, spanOf(9, 9, 1), "9 {}630")
	checkEval(t, repeat("c+", 149)+"c", "c{} 0:1", spanOf(0, 0, 1), "0 {}150")
	checkEval(t, repeat("-", 19)+"c", "c{} 0:1", spanOf(0, 0, 1), "0 {}-1")
	checkEval(t, "peak(c[1000]) - low(c[1000])", manySamples("c", 200), spanOf(199, 199, 1), "199 {}0")
}

// P5 and P9, of queries and stores that were made up.
func TestEvalOfMadeUpQueries(t *testing.T) {
	m := maker{rand.New(rand.NewSource(4))}
	asked, full := 0, 0
	for asked < 8000 {
		query, store, span := m.query(1+m.Intn(5)).loose, m.store(), m.span()
		printed, e, _ := Print(query)
		if e != api.OK {
			continue
		}
		asked++
		want := plainAnswer(t, query, store, span)
		checkEval(t, query, store, span, want)
		if strings.Contains(want, "}") {
			full++
		}
		lines := strings.Split(store, "\n")
		m.Shuffle(len(lines), func(i, j int) { lines[i], lines[j] = lines[j], lines[i] })
		checkEval(t, query, strings.Join(lines, "\n\n"), span, want)
		if len(printed) <= api.MaxQuery {
			checkEval(t, printed, store, span, want)
		}
		if t.Failed() {
			return
		}
	}
	if full < asked/4 {
		t.Errorf("only %d of %d answers have values with labels", full, asked)
	}
}

func (m maker) store() string {
	var lines []string
	for _, name := range []string{"a", "b", "cpu", "abcdefgh"} {
		for _, labels := range []string{"", "or=1", "or=1,sum=1", "or=1,x=abcdefgh", "sum=1,x=1", "sum=2", "x=1", "x=abcdefgh"} {
			if m.Intn(2) == 0 {
				lines = append(lines, name+"{"+labels+"}"+m.samples())
			}
		}
	}
	lines = lines[:min(len(lines), api.MaxSeries)]
	m.Shuffle(len(lines), func(i, j int) { lines[i], lines[j] = lines[j], lines[i] })
	return strings.Join(lines, "\n")
}

func (m maker) samples() string {
	text, time, far := "", 0, []int{3, 10, 300}[m.Intn(3)]
	for range m.Intn(7) {
		time += 1 + m.Intn(far)
		text += " " + strconv.Itoa(time) + ":" + m.pick("", "-") + strconv.Itoa([]int{1 + m.Intn(9), 1 + m.Intn(5000), 999999999 + m.Intn(2)}[m.Intn(3)])
	}
	return text
}

func (m maker) span() api.Span {
	first, step := m.Intn(40)-5, []int{1 + m.Intn(5), 1 + m.Intn(100)}[m.Intn(2)]
	return spanOf(first, first+step*m.Intn(6)+m.Intn(step), step)
}

func TestMadeUpStoresAreStores(t *testing.T) {
	m := maker{rand.New(rand.NewSource(5))}
	var sizes []int
	for range 500 {
		store := m.store()
		checkLoad(t, store, api.OK, 0)
		sizes = append(sizes, strings.Count(store, ":"))
	}
	if slices.Max(sizes) < 20 {
		t.Errorf("the greatest of them has only %d samples", slices.Max(sizes))
	}
}
