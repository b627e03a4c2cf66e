package gauge

import (
	"math"
	"slices"
	"strconv"
	"strings"
	"testing"

	"gauge/api"
)

func checkExec(t *testing.T, code, store string, span api.Span, fuel int, want ...string) {
	t.Helper()
	if got, e, at := Exec(code, store, span, fuel); got != strings.Join(want, "\n") || e != api.OK || at != 0 {
		t.Errorf("P7: Exec(%.80q, %.60q, %v, %d) = %q, %d, %d, want %q", code, store, span, fuel, got, e, at, want)
	}
}

func checkNoExec(t *testing.T, code, store string, span api.Span, fuel int, want api.Errno, place int) {
	t.Helper()
	if got, e, at := Exec(code, store, span, fuel); got != "" || e != want || at != place {
		t.Errorf("P7: Exec(%.80q, %.60q, %v, %d) = %q, %d, %d, want %d, %d", code, store, span, fuel, got, e, at, want, place)
	}
}

// some gives code with two constants, selectors of what fewSeries has and has
// not, and groups.
func some(instructions ...int) string {
	return parts{[]int{7, -2}, []string{"c", "d", "c[4]", "e", `c{h!="a"}`}, []string{"", "h"}, instructions}.code()
}

func TestExecInstructions(t *testing.T) {
	for _, c := range []struct {
		instructions []int
		one, four    string
	}{
		{[]int{0, 0}, "1 7", "4 7"}, {[]int{0, 1}, "1 -2", "4 -2"},
		{[]int{1, 0}, "1 {h=a}5", "4 {h=a}8 {h=b}2"}, {[]int{1, 3}, "1", "4"}, {[]int{1, 4}, "1", "4 {h=b}2"},
		{[]int{1, 2, 2, 0}, "1 {h=a}5", "4 {h=a}13 {h=b}2"}, {[]int{1, 2, 2, 1}, "1 {h=a}5", "4 {h=a}8 {h=b}2"}, {[]int{1, 2, 2, 2}, "1 {h=a}5", "4 {h=a}5 {h=b}2"}, {[]int{1, 2, 2, 3}, "1 {h=a}1", "4 {h=a}2 {h=b}1"}, {[]int{1, 2, 2, 4}, "1 {h=a}0", "4 {h=a}3 {h=b}0"},
		{[]int{0, 0, 0, 1, 3, 0}, "1 5", "4 5"}, {[]int{0, 0, 0, 1, 3, 1}, "1 9", "4 9"}, {[]int{0, 0, 0, 1, 3, 2}, "1 -14", "4 -14"}, {[]int{0, 0, 0, 1, 3, 3}, "1 -3", "4 -3"}, {[]int{0, 1, 0, 0, 3, 1}, "1 -9", "4 -9"},
		{[]int{1, 0, 0, 0, 3, 1}, "1 {h=a}-2", "4 {h=a}1 {h=b}-5"}, {[]int{0, 0, 1, 0, 3, 1}, "1 {h=a}2", "4 {h=a}-1 {h=b}5"}, {[]int{1, 0, 1, 1, 3, 1}, "1", "4 {h=a}5"},
		{[]int{0, 1, 4, 0}, "1 2", "4 2"}, {[]int{1, 0, 4, 0}, "1 {h=a}-5", "4 {h=a}-8 {h=b}-2"},
		{[]int{1, 0, 5, 0}, "1 {}5", "4 {}10"}, {[]int{1, 0, 6, 0}, "1 {}5", "4 {}8"}, {[]int{1, 0, 7, 0}, "1 {}5", "4 {}2"}, {[]int{1, 0, 8, 0}, "1 {}1", "4 {}2"}, {[]int{1, 0, 8, 1}, "1 {h=a}1", "4 {h=a}1 {h=b}1"}, {[]int{1, 3, 8, 0}, "1", "4"},
		{[]int{0, 0, 9, 3, 4, 0}, "1 7", "4 7"}, {[]int{0, 0, 9, 2, 4, 0}, "1 -7", "4 -7"},
		{[]int{1, 1, 10, 4, 11, 0, 1, 0}, "1 {h=a}5", "4 {h=a}3"}, {[]int{1, 1, 10, 3, 4, 0, 4, 0}, "1", "4 {h=a}-3"}, {[]int{1, 1, 10, 4, 1, 0, 12, 0}, "1", "4 {h=a}3"},
		{[]int{0, 0, 0, 1, 11, 0}, "1 7", "4 7"}, {[]int{1, 2, 0, 1, 12, 0, 11, 0, 13, 0}, "1 -2", "4 -2"},
		{[]int{0, 0, 12, 15, 0, 1, 12, 14, 13, 14, 13, 15, 3, 1}, "1 -9", "4 -9"}, {[]int{0, 0, 12, 1, 0, 1, 12, 1, 13, 1}, "1 -2", "4 -2"}, {[]int{1, 2, 12, 0, 13, 0, 2, 0, 13, 0, 2, 3, 3, 1}, "1 {h=a}4", "4 {h=a}11 {h=b}1"}, {[]int{1, 0, 12, 3, 13, 3, 4, 0, 13, 3, 3, 0}, "1 {h=a}0", "4 {h=a}0 {h=b}0"},
	} {
		checkExec(t, some(c.instructions...), fewSeries, spanOf(1, 4, 3), api.MaxFuel, c.one, c.four)
	}
}

// Groups are by the names, in whatever order they stand.
func TestExecGroups(t *testing.T) {
	store := "c{a=1,b=1} 1:1\nc{a=1,b=2} 1:10\nc{a=2,b=1} 1:-100\nc{b=1} 1:1000\nc{} 1:10000"
	for group, want := range map[string]string{
		"": "{}5", "a": "{}2 {a=1}2 {a=2}1", "b": "{}1 {b=1}3 {b=2}1", "b,a": "{}1 {a=1,b=1}1 {a=1,b=2}1 {a=2,b=1}1 {b=1}1", "z,b,y,a,x": "{}1 {a=1,b=1}1 {a=1,b=2}1 {a=2,b=1}1 {b=1}1", "aa,ab": "{}5",
	} {
		checkExec(t, parts{nil, []string{"c"}, []string{group}, []int{1, 0, 8, 0}}.code(), store, spanOf(1, 1, 1), 2, "1 "+want)
	}
}

// Each time begins anew: nothing is left over from the one ahead of it.
func TestExecEachTimeAnew(t *testing.T) {
	store := "c{} 1:1 2:2 30:3"
	checkExec(t, some(1, 0, 12, 0, 1, 0, 13, 0, 3, 0), store, spanOf(1, 31, 10), api.MaxFuel, "1 {}2", "11 {}4", "21", "31 {}6")
	checkExec(t, some(1, 0, 5, 0, 10, 4, 4, 0), store, spanOf(1, 31, 10), api.MaxFuel, "1 {}1", "11 {}2", "21", "31 {}3")
	checkExec(t, some(0, 0), "", spanOf(-1, 1, 1), 3, "-1 7", "0 7", "1 7")
}

func TestExecFuel(t *testing.T) {
	empty, span := some(0, 0), spanOf(1, 4, 3)
	for fuel, want := range map[int]api.Errno{math.MinInt: api.ErrFuel, -1: api.ErrFuel, 0: api.ErrFuel, 1: api.ErrFuel, 2: api.OK, 3: api.OK, api.MaxFuel: api.OK, api.MaxFuel + 1: api.ErrFuel, math.MaxInt: api.ErrFuel} {
		if got, e, at := Exec(empty, "", span, fuel); e != want || at != 0 || (got == "") != (want != api.OK) {
			t.Errorf("P7: Exec with fuel %d = %q, %d, %d, want %d", fuel, got, e, at, want)
		}
	}
	// What is jumped over takes none, a jump takes one.
	jumps := some(1, 1, 10, 4, 4, 0, 4, 0, 9, 6, 4, 0)
	for fuel := range 8 {
		checkNoExec(t, jumps, fewSeries, span, fuel, api.ErrFuel, 0)
	}
	checkExec(t, jumps, fewSeries, span, 8, "1", "4 {h=a}3")
	// The greatest fuel, to the last one: 50 times 20000 instructions.
	long := slices.Concat([]int{0, 0}, slices.Repeat([]int{4, 0}, 19999))
	var lines []string
	for time := range 50 {
		lines = append(lines, strconv.Itoa(time)+" -7")
	}
	checkExec(t, some(long...), "", spanOf(0, 49, 1), api.MaxFuel, lines...)
	checkNoExec(t, some(long...), "", spanOf(0, 49, 1), api.MaxFuel-1, api.ErrFuel, 0)
	checkNoExec(t, some(slices.Concat(long, []int{4, 0})...), "", spanOf(0, 49, 1), api.MaxFuel, api.ErrFuel, 0)
}

// P7 names the errors of the code first, then those of the store, of the
// times, and of the fuel.
func TestExecFirstNamed(t *testing.T) {
	bad, fine := spanOf(1, 0, 0), spanOf(0, 0, 1)
	wrongSum := some(0, 0)
	wrongSum = wrongSum[:len(wrongSum)-1] + string([]byte{wrongSum[len(wrongSum)-1] ^ 1})
	for _, store := range []string{"", "x", "c{}\nc{}", manySeries(31), strings.Repeat("\n", 6001)} {
		for _, fuel := range []int{-1, 0, api.MaxFuel + 1} {
			checkNoExec(t, "gg", store, bad, fuel, api.ErrCode, 2)
			checkNoExec(t, wrongSum, store, bad, fuel, api.ErrSum, 0)
			checkNoExec(t, some(0, 0, 0, 9), store, bad, fuel, api.ErrRefer, 1)
			checkNoExec(t, some(0, 0, 1, 2), store, bad, fuel, api.ErrStack, 2)
		}
	}
	for _, fuel := range []int{-1, 0, api.MaxFuel + 1} {
		checkNoExec(t, some(0, 0), strings.Repeat("\n", 6001), bad, fuel, api.ErrLong, 0)
		checkNoExec(t, some(0, 0), "c{}\n\nx", bad, fuel, api.ErrStore, 2)
		checkNoExec(t, some(0, 0), "c{}\nd{}\nc{}", bad, fuel, api.ErrTwice, 2)
		checkNoExec(t, some(0, 0), manySeries(31), bad, fuel, api.ErrMany, 0)
		checkNoExec(t, some(0, 0), manySeries(30), bad, fuel, api.ErrTimes, 0)
		checkNoExec(t, some(0, 0), manySeries(30), spanOf(0, 50, 1), fuel, api.ErrTimes, 0)
		checkNoExec(t, some(0, 0), manySeries(30), fine, fuel, api.ErrFuel, 0)
		checkNoExec(t, some(0, 0), "x", fine, fuel, api.ErrStore, 0)
	}
}

func TestExecAtTheLimits(t *testing.T) {
	high := slices.Concat(slices.Repeat([]int{1, 0}, 64), slices.Repeat([]int{3, 0}, 63))
	checkExec(t, some(high...), "c{} 0:1", spanOf(0, 0, 1), 127, "0 {}64")
	var fill, add []int
	for slot := range 16 {
		fill = append(fill, 0, slot%2, 12, slot)
		add = append(add, 13, slot, 3, 0)
	}
	checkExec(t, some(slices.Concat(fill, []int{0, 0}, add)...), "", spanOf(0, 0, 1), api.MaxFuel, "0 47")
	most := parts{[]int{1000000000, -1000000000}, nil, nil, []int{0, 0, 0, 1, 3, 1}}
	checkExec(t, most.code(), "", spanOf(5, 5, 1), 3, "5 1000000000")
	most.instructions[5] = 2
	checkExec(t, most.code(), "", spanOf(5, 5, 1), 3, "5 -1000000000")
	// Many thousands of names, of which one is a label's.
	var names []string
	for i := range 10000 {
		names = append(names, string([]byte{'x', byte('a' + i/1000), byte('a' + i/100%10), byte('a' + i/10%10), byte('a' + i%10)}))
	}
	wide := parts{nil, []string{"c"}, []string{strings.Join(names, ",") + ",h"}, slices.Concat([]int{1, 0}, slices.Repeat([]int{5, 0}, 5000))}
	checkExec(t, wide.code(), fewSeries, spanOf(4, 4, 1), api.MaxFuel, "4 {h=a}8 {h=b}2")
}
