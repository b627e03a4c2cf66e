// Package fault: what can go wrong in what is handed in, and where it did.
package fault

import (
	"errors"
	"strconv"
)

// What can go wrong. Each stands for one error of package api.
var (
	Long   = errors.New("the text is too long")
	Syntax = errors.New("the text is no query")
	Deep   = errors.New("the query is too deep")
	Type   = errors.New("a part is of the wrong kind")
	Store  = errors.New("the line is no series")
	Twice  = errors.New("the series is there already")
	Many   = errors.New("there is more than may be")
	Times  = errors.New("the times may not be")
	Code   = errors.New("the text is no code")
	Sum    = errors.New("the sum is wrong")
	Refer  = errors.New("the argument speaks of what there is not")
	Stack  = errors.New("the stack or the slots are not as they must be")
	Fuel   = errors.New("no fuel is left")
)

// Fault is something that went wrong at one place of a text. What is wrong
// with a text as a whole is not wrapped by it: no place is told of that.
type Fault struct {
	Unit  string // what the place counts
	Place int
	What  error
}

// AtByte wraps what went wrong by the byte at which it did.
func AtByte(place int, what error) error {
	return &Fault{Unit: "byte", Place: place, What: what}
}

// AtLine wraps what went wrong by the line in which it did.
func AtLine(place int, what error) error {
	return &Fault{Unit: "line", Place: place, What: what}
}

// AtInstruction wraps what went wrong by the instruction at which it did.
func AtInstruction(place int, what error) error {
	return &Fault{Unit: "instruction", Place: place, What: what}
}

func (f *Fault) Error() string {
	return f.Unit + " " + strconv.Itoa(f.Place) + ": " + f.What.Error()
}

func (f *Fault) Unwrap() error { return f.What }
