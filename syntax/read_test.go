package syntax

import (
	"errors"
	"reflect"
	"testing"

	"gauge/fault"
)

func read(t *testing.T, text string) Part {
	t.Helper()
	part, err := Read(text)
	if err != nil {
		t.Fatalf("Read(%q): %v", text, err)
	}
	return part
}

func TestReadShapes(t *testing.T) {
	a, b, c := Selector{Name: "a"}, Selector{Name: "b"}, Selector{Name: "c"}
	for _, x := range []struct {
		text string
		want Part
	}{
		{"a", a},
		{"7", Number{7}},
		{"a or b + c", Pair{Or, a, Pair{Add, b, c}}},
		{"a + b or c", Pair{Or, Pair{Add, a, b}, c}},
		{"a - b + c", Pair{Add, Pair{Subtract, a, b}, c}},
		{"a - (b + c)", Pair{Subtract, a, Pair{Add, b, c}}},
		{"a / b * c", Pair{Multiply, Pair{Divide, a, b}, c}},
		{"a or b or c", Pair{Or, Pair{Or, a, b}, c}},
		{"-a * b", Pair{Multiply, Negative{a}, b}},
		{"-(a * b)", Negative{Pair{Multiply, a, b}}},
		{"a - -b", Pair{Subtract, a, Negative{b}}},
		{"max by (b,a) (c)", Group{"max", []string{"b", "a"}, c}},
		{"min by () (c)", Group{"min", nil, c}},
		{`low(a{b="",c!="1"}[60])`, Window{"low", Selector{"a", []Condition{{"b", false, ""}, {"c", true, "1"}}}, 60}},
	} {
		if got := read(t, x.text); !reflect.DeepEqual(got, x.want) {
			t.Errorf("Read(%q) = %#v, want %#v", x.text, got, x.want)
		}
	}
}

func TestKinds(t *testing.T) {
	for _, c := range []struct {
		text string
		want Kind
	}{
		{"1", Scalar}, {"-1", Scalar}, {"(1 + 2) * -3", Scalar}, {"a", Vector}, {"-a", Vector}, {"1 + a", Vector}, {"a / 1", Vector}, {"a * b", Vector}, {"a or b", Vector}, {"count by () (a)", Vector}, {"size(a[1])", Vector},
	} {
		if got, err := KindOf(read(t, c.text)); got != c.want || err != nil {
			t.Errorf("KindOf(%q) = %v, %v", c.text, got, err)
		}
	}
}

func TestReadGivesNothingBesideAFault(t *testing.T) {
	for _, text := range []string{"", "a b", "(a", "-", "sum by () (a", "total(a[5]", "1 or a", "a{x"} {
		part, err := Read(text)
		if part != nil || err == nil {
			t.Errorf("Read(%q) = %v, %v", text, part, err)
		}
	}
}

func TestReadWrapsByTheByte(t *testing.T) {
	_, err := Read("a + )")
	var at *fault.Fault
	if !errors.Is(err, fault.Syntax) || !errors.As(err, &at) || at.Place != 4 || at.Unit != "byte" {
		t.Errorf("Read: %v", err)
	}
}
