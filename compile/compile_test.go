package compile

import (
	"reflect"
	"slices"
	"strings"
	"testing"

	"gauge/api"
	"gauge/bytecode"
	"gauge/syntax"
	"gauge/verify"
)

func codeOf(t *testing.T, query string, flags int) bytecode.Code {
	t.Helper()
	part, err := syntax.Read(query)
	if err != nil {
		t.Fatal(err)
	}
	code := Query(part, flags)
	if _, err := verify.Look(code); err != nil {
		t.Errorf("%s, %d: %v", query, flags, err)
	}
	return code
}

// flat gives instructions and their arguments by turns.
func flat(code bytecode.Code) []int {
	var list []int
	for _, one := range code.Instructions {
		list = append(list, one.Op, one.Argument)
	}
	return list
}

func TestInstructions(t *testing.T) {
	for _, c := range []struct {
		query string
		flags int
		want  []int
	}{
		{"5", 0, []int{0, 0}},
		{"-5", 0, []int{0, 0, 4, 0}},
		{"c - d", 0, []int{1, 0, 1, 1, 3, 1}},
		{"1 / c", 0, []int{0, 0, 1, 0, 3, 3}},
		{"c * (d + c)", 0, []int{1, 0, 1, 1, 1, 0, 3, 0, 3, 2}},
		{"low(c[3]) - low(c[4])", 0, []int{1, 0, 2, 2, 1, 1, 2, 2, 3, 1}},
		{"count by (h) (max by () (c))", 0, []int{1, 0, 6, 0, 8, 1}},
		{"d or c", 0, []int{1, 0, 10, 4, 11, 0, 1, 1}},
		{"e or d or c", 0, []int{1, 0, 10, 4, 11, 0, 1, 1, 10, 7, 11, 0, 1, 2}},
		{"e or d or c", api.Thread, []int{1, 0, 10, 7, 11, 0, 1, 1, 10, 7, 11, 0, 1, 2}},
		{"2 * 3 - 4", 0, []int{0, 0, 0, 1, 3, 2, 0, 2, 3, 1}},
		{"2 * 3 - 4", api.Fold, []int{0, 0}},
		{"c * -(2 - 3)", api.Fold, []int{1, 0, 0, 0, 3, 2}},
		{"c - 2 - 3", api.Fold, []int{1, 0, 0, 0, 3, 1, 0, 1, 3, 1}},
		{"c + c", api.Share, []int{1, 0, 1, 0, 3, 0}},
		{"-c + -c", api.Share, []int{1, 0, 4, 0, 1, 0, 4, 0, 3, 0}},
		{"--c + --c", api.Share, []int{1, 0, 4, 0, 4, 0, 12, 0, 13, 0, 13, 0, 3, 0}},
		{"size(c[3]) * size(c[3])", api.Share, []int{1, 0, 2, 3, 12, 0, 13, 0, 13, 0, 3, 2}},
		{"(1 + 1) * (1 + 1)", api.Share, []int{0, 0, 0, 1, 3, 0, 12, 0, 13, 0, 13, 0, 3, 2}},
		{"sum by (a,b) (c) + sum by (b,a,b) (c)", api.Share, []int{1, 0, 5, 0, 12, 0, 13, 0, 13, 0, 3, 0}},
		{"(c + (1 + 1)) * (c + 2)", api.Share | api.Fold, []int{1, 0, 0, 0, 3, 0, 12, 0, 13, 0, 13, 0, 3, 2}},
	} {
		if got := flat(codeOf(t, c.query, c.flags)); !slices.Equal(got, c.want) {
			t.Errorf("%s, %d: %v, want %v", c.query, c.flags, got, c.want)
		}
	}
}

// What an or may pass over cannot be leant on behind it.
func TestShareAcrossOr(t *testing.T) {
	for _, c := range []struct {
		query string
		want  []int
	}{
		{"(e or size(c[3])) + size(c[3])", []int{1, 1, 2, 3, 12, 0, 1, 0, 10, 7, 11, 0, 13, 0, 13, 0, 3, 0}},
		{"size(c[3]) - (e or size(c[3]))", []int{1, 0, 2, 3, 12, 0, 13, 0, 1, 1, 10, 8, 11, 0, 13, 0, 3, 1}},
		{"e or size(c[3]) + size(c[3])", []int{1, 0, 10, 9, 11, 0, 1, 1, 2, 3, 12, 0, 13, 0, 13, 0, 3, 0}},
		{"(d or size(c[3])) * (e or size(c[3]))", []int{1, 1, 2, 3, 12, 0, 1, 0, 10, 7, 11, 0, 13, 0, 1, 2, 10, 11, 11, 0, 13, 0, 3, 2}},
	} {
		if got := flat(codeOf(t, c.query, api.Share)); !slices.Equal(got, c.want) {
			t.Errorf("%s: %v, want %v", c.query, got, c.want)
		}
	}
}

func TestTables(t *testing.T) {
	code := codeOf(t, `total(c{h!="a"}[9]) - c{h!="a"} * c{h!="a"} + 7 + 7 + sum by (b,a,b) (max by (a,b) (min by () (c{h!="a"})))`, 0)
	from := syntax.Selector{Name: "c", Conditions: []syntax.Condition{{Name: "h", Not: true, Text: "a"}}}
	want := bytecode.Code{
		Constants:    []int{7, 7},
		Selectors:    []bytecode.Selector{{From: from, Length: 9}, {From: from}},
		Groups:       [][]string{nil, {"a", "b"}},
		Instructions: code.Instructions,
	}
	if !reflect.DeepEqual(code, want) {
		t.Errorf("%v, want %v", code, want)
	}
}

// A slot is used again as soon as nothing is to be loaded from it any more.
func TestSlotsAreUsedAgain(t *testing.T) {
	var twice []string
	for _, digit := range strings.Split("0123456789", "") {
		for _, sign := range []string{"+", "-"} {
			one := "(c" + sign + digit + ")"
			twice = append(twice, one+"*"+one)
		}
	}
	code := codeOf(t, strings.Join(twice, "*"), api.Share)
	need, _ := verify.Look(code)
	if stores := count(code, api.OpStore); stores != 20 || need.Slots != 1 {
		t.Errorf("%d are stored in %d slots", stores, need.Slots)
	}
}

func count(code bytecode.Code, op int) int {
	found := 0
	for _, one := range code.Instructions {
		if one.Op == op {
			found++
		}
	}
	return found
}

// Of twenty that are needed all at once, sixteen are kept.
func TestMoreThanThereAreSlots(t *testing.T) {
	var list []string
	for _, digit := range strings.Split("0123456789", "") {
		list = append(list, "(c+"+digit+")", "(c-"+digit+")")
	}
	once := strings.Join(list, "*")
	slices.Reverse(list)
	code := codeOf(t, once+"*"+strings.Join(list, "*"), api.Share)
	need, _ := verify.Look(code)
	if stores, loads := count(code, api.OpStore), count(code, api.OpLoad); need.Slots != 16 || stores != 16 || loads != 32 {
		t.Errorf("%d are stored in %d slots, and %d loaded", stores, need.Slots, loads)
	}
}

func TestThread(t *testing.T) {
	full := func(to int) bytecode.Instruction { return bytecode.Instruction{Op: api.OpFull, Argument: to} }
	other := bytecode.Instruction{Op: api.OpNeg}
	list := []bytecode.Instruction{full(2), other, full(4), other, full(6), full(7), other, full(8)}
	thread(list)
	want := []bytecode.Instruction{full(6), other, full(6), other, full(6), full(8), other, full(8)}
	if !slices.Equal(list, want) {
		t.Errorf("%v, want %v", list, want)
	}
}
