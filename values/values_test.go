package values

import (
	"reflect"
	"testing"

	"gauge/labels"
	"gauge/series"
	"gauge/syntax"
)

func item(label string, value int) Item {
	if label == "" {
		return Item{Value: value, Labels: labels.Of(nil)}
	}
	return Item{Value: value, Labels: labels.Of([]labels.Label{{Name: "h", Text: label}})}
}

func check(t *testing.T, what string, got, want Value) {
	t.Helper()
	gotVector, isVector := got.(Vector)
	wantVector, wantsVector := want.(Vector)
	if isVector && wantsVector && len(gotVector)+len(wantVector) == 0 {
		return
	}
	if !reflect.DeepEqual(got, want) {
		t.Errorf("%s: %v, want %v", what, got, want)
	}
}

func TestCut(t *testing.T) {
	for value, want := range map[int]int{0: 0, 1000000000: 1000000000, 1000000001: 1000000000, -1000000000: -1000000000, -1000000001: -1000000000, 1 << 62: 1000000000, -1 << 62: -1000000000} {
		if got := cut(value); got != want {
			t.Errorf("cut(%d) = %d, want %d", value, got, want)
		}
	}
}

func TestArithmeticOfScalars(t *testing.T) {
	const most = 1000000000
	for _, c := range []struct {
		operator   syntax.Operator
		x, y, want Scalar
	}{
		{syntax.Add, 2, 3, 5}, {syntax.Add, most, 1, most}, {syntax.Add, -most, -most, -most},
		{syntax.Subtract, 2, 3, -1}, {syntax.Subtract, -most, 1, -most}, {syntax.Subtract, most, -most, most},
		{syntax.Multiply, -2, 3, -6}, {syntax.Multiply, most, most, most}, {syntax.Multiply, most, -most, -most}, {syntax.Multiply, -most, -most, most},
		{syntax.Divide, 7, 2, 3}, {syntax.Divide, -7, 2, -3}, {syntax.Divide, 7, -2, -3}, {syntax.Divide, -7, -2, 3}, {syntax.Divide, 1, 2, 0}, {syntax.Divide, 7, 0, 0}, {syntax.Divide, 0, 0, 0}, {syntax.Divide, -most, -1, most},
	} {
		check(t, c.operator.String(), Arithmetic(c.operator, c.x, c.y), c.want)
	}
}

func TestArithmeticOfVectors(t *testing.T) {
	v := Vector{item("", 1), item("a", 10), item("b", 100)}
	w := Vector{item("a", 3), item("b", 0), item("c", 5)}
	check(t, "20 - v", Arithmetic(syntax.Subtract, Scalar(20), v), Vector{item("", 19), item("a", 10), item("b", -80)})
	check(t, "v - 20", Arithmetic(syntax.Subtract, v, Scalar(20)), Vector{item("", -19), item("a", -10), item("b", 80)})
	check(t, "v / w", Arithmetic(syntax.Divide, v, w), Vector{item("a", 3), item("b", 0)})
	check(t, "w / v", Arithmetic(syntax.Divide, w, v), Vector{item("a", 0), item("b", 0)})
	check(t, "v - nothing", Arithmetic(syntax.Subtract, v, Vector{}), Vector{})
	check(t, "1 - nothing", Arithmetic(syntax.Subtract, Scalar(1), Vector{}), Vector{})
	check(t, "v", v, Vector{item("", 1), item("a", 10), item("b", 100)})
}

func TestNegative(t *testing.T) {
	check(t, "-7", Negative(Scalar(7)), Scalar(-7))
	check(t, "-v", Negative(Vector{item("a", 7), item("b", -1000000000)}), Vector{item("a", -7), item("b", 1000000000)})
	check(t, "-nothing", Negative(Vector{}), Vector{})
}

// A range is no scalar and no vector; what is made of it is nothing.
func TestNothingIsMadeOfARange(t *testing.T) {
	r := Range{{Samples: []series.Sample{{Time: 1, Value: 1}}}}
	check(t, "-r", Negative(r), Vector{})
	check(t, "r + 1", Arithmetic(syntax.Add, r, Scalar(1)), Vector{})
	check(t, "1 + r", Arithmetic(syntax.Add, Scalar(1), r), Vector{})
	check(t, "v + r", Arithmetic(syntax.Add, Vector{item("a", 7)}, r), Vector{})
}
