package answer

import (
	"errors"
	"math"
	"slices"
	"testing"

	"gauge/api"
	"gauge/fault"
	"gauge/labels"
	"gauge/values"
)

func TestTimes(t *testing.T) {
	for _, c := range []struct {
		span api.Span
		want []int
	}{
		{api.Span{First: 1, Last: 4, Step: 3}, []int{1, 4}}, {api.Span{First: 1, Last: 6, Step: 3}, []int{1, 4}}, {api.Span{First: 0, Last: 0, Step: 1}, []int{0}}, {api.Span{First: -3, Last: 2, Step: 2}, []int{-3, -1, 1}},
		{api.Span{First: -1000000, Last: 1000000, Step: 1000000}, []int{-1000000, 0, 1000000}}, {api.Span{First: 1000000, Last: 1000000, Step: 1000000}, []int{1000000}},
	} {
		if got, err := Times(c.span); err != nil || !slices.Equal(got, c.want) {
			t.Errorf("Times(%v) = %v, %v", c.span, got, err)
		}
	}
	for _, last := range []int{98, 99} {
		if got, err := Times(api.Span{First: 0, Last: last, Step: 2}); err != nil || len(got) != 50 || got[49] != 98 {
			t.Errorf("fifty times: %v, %v", got, err)
		}
	}
}

func TestTimesThatMayNotBe(t *testing.T) {
	for _, span := range []api.Span{
		{First: 0, Last: 0, Step: 0}, {First: 0, Last: 0, Step: -1}, {First: 0, Last: 0, Step: 1000001}, {First: 0, Last: 0, Step: math.MaxInt}, {First: 0, Last: 0, Step: math.MinInt},
		{First: 1, Last: 0, Step: 1}, {First: 0, Last: -1, Step: 1000000}, {First: 1000000, Last: -1000000, Step: 1},
		{First: -1000001, Last: 0, Step: 1000000}, {First: 1000001, Last: 1000001, Step: 1}, {First: 0, Last: 1000001, Step: 1000000}, {First: -1000001, Last: -1000001, Step: 1},
		{First: math.MinInt, Last: math.MaxInt, Step: 1}, {First: math.MaxInt, Last: math.MinInt, Step: 1}, {First: math.MinInt, Last: math.MinInt, Step: math.MinInt},
		{First: 0, Last: 50, Step: 1}, {First: 0, Last: 100, Step: 2}, {First: -1000000, Last: 1000000, Step: 40000}, {First: -1000000, Last: 1000000, Step: 1},
	} {
		if got, err := Times(span); got != nil || !errors.Is(err, fault.Times) {
			t.Errorf("Times(%v) = %v, %v", span, got, err)
		}
	}
}

func TestLine(t *testing.T) {
	two := labels.Of([]labels.Label{{Name: "a", Text: "1"}, {Name: "b", Text: "x"}})
	for _, c := range []struct {
		time  int
		value values.Value
		want  string
	}{
		{1, values.Scalar(5), "1 5"}, {-1, values.Scalar(-5), "-1 -5"}, {0, values.Scalar(0), "0 0"}, {7, values.Vector{}, "7"}, {7, values.Vector(nil), "7"},
		{-7, values.Vector{{Value: 3}, {Labels: two, Value: -4}}, "-7 {}3 {a=1,b=x}-4"},
	} {
		if got := Line(c.time, c.value); got != c.want {
			t.Errorf("Line(%d, %v) = %q, want %q", c.time, c.value, got, c.want)
		}
	}
}
