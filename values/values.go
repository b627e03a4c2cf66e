// Package values: what parts of queries say at a time, and what is done with
// it.
package values

import (
	"cmp"
	"slices"

	"gauge/api"
	"gauge/labels"
	"gauge/series"
	"gauge/syntax"
)

// Value is a Scalar, a Vector or a Range.
type Value interface{ isValue() }

// Scalar is one value.
type Scalar int

// Vector is values with labels: by rising labels, no two with the same.
type Vector []Item

// Range is what windows look at: of each series some samples, at least one.
type Range []Stretch

// Item is a value of a Vector.
type Item struct {
	Labels labels.Labels
	Value  int
}

// Stretch is the samples of one series that lie in a window.
type Stretch struct {
	Labels  labels.Labels
	Samples []series.Sample
}

func (Scalar) isValue() {}
func (Vector) isValue() {}
func (Range) isValue()  {}

func cut(value int) int { return max(-api.MaxValue, min(value, api.MaxValue)) }

// sortItems puts items into the order in which a Vector has them, wherever
// they come from.
func sortItems(items []Item) Vector {
	slices.SortFunc(items, func(a, b Item) int {
		return cmp.Compare(a.Labels.String(), b.Labels.String())
	})
	return items
}

// Negative gives of each value the one with the other sign.
func Negative(value Value) Value {
	switch of := value.(type) {
	case Scalar:
		return -of
	case Vector:
		return of.each(func(one int) int { return -one })
	}
	return Vector(nil)
}

// Arithmetic gives what + - * or / makes of two scalars or vectors.
func Arithmetic(operator syntax.Operator, x, y Value) Value {
	switch left := x.(type) {
	case Scalar:
		switch right := y.(type) {
		case Scalar:
			return Scalar(apply(operator, int(left), int(right)))
		case Vector:
			return right.each(func(one int) int { return apply(operator, int(left), one) })
		}
	case Vector:
		switch right := y.(type) {
		case Scalar:
			return left.each(func(one int) int { return apply(operator, one, int(right)) })
		case Vector:
			return left.with(right, operator)
		}
	}
	return Vector(nil)
}

func (v Vector) each(change func(int) int) Vector {
	out := make(Vector, 0, len(v))
	for _, item := range v {
		out = append(out, Item{Labels: item.Labels, Value: change(item.Value)})
	}
	return out
}

func (v Vector) with(other Vector, operator syntax.Operator) Vector {
	var out Vector
	for _, item := range v {
		if value, found := other.find(item.Labels); found {
			out = append(out, Item{Labels: item.Labels, Value: apply(operator, item.Value, value)})
		}
	}
	return out
}

func (v Vector) find(wanted labels.Labels) (int, bool) {
	at, found := slices.BinarySearchFunc(v, wanted.String(), func(item Item, text string) int {
		return cmp.Compare(item.Labels.String(), text)
	})
	if !found {
		return 0, false
	}
	return v[at].Value, true
}

// apply can't wrap round: the product of two values lies far inside 64 bits.
func apply(operator syntax.Operator, x, y int) int {
	switch operator {
	case syntax.Add:
		return cut(x + y)
	case syntax.Subtract:
		return cut(x - y)
	case syntax.Multiply:
		return cut(x * y)
	}
	if y == 0 {
		return 0
	}
	return x / y
}
