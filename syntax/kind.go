package syntax

import "gauge/fault"

// Kind is what a part says at a time: one value, or values with labels.
type Kind int

const (
	Scalar Kind = iota
	Vector
)

// KindOf tells a part's kind, if each part in it is of a kind that can be
// there.
func KindOf(part Part) (Kind, error) {
	switch p := part.(type) {
	case Number:
		return Scalar, nil
	case Negative:
		return KindOf(p.Of)
	case Group:
		return Vector, wantVector(p.Of)
	case Pair:
		return kindOfPair(p)
	}
	return Vector, nil
}

func wantVector(part Part) error {
	kind, err := KindOf(part)
	if err == nil && kind != Vector {
		return fault.Type
	}
	return err
}

func kindOfPair(p Pair) (Kind, error) {
	left, err := KindOf(p.Left)
	if err != nil {
		return left, err
	}
	right, err := KindOf(p.Right)
	if err != nil {
		return right, err
	}
	if p.Operator == Or && (left != Vector || right != Vector) {
		return Vector, fault.Type
	}
	return max(left, right), nil
}
