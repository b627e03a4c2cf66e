package fault

import (
	"errors"
	"testing"
)

func TestFaultTellsWhatAndWhere(t *testing.T) {
	err := AtLine(3, Twice)
	if !errors.Is(err, Twice) || errors.Is(err, Store) {
		t.Errorf("what is wrapped is not told apart: %v", err)
	}
	var at *Fault
	if !errors.As(err, &at) || at.Place != 3 || at.Unit != "line" {
		t.Errorf("the place is lost: %v", err)
	}
	if got := AtByte(7, Syntax).Error(); got != "byte 7: the text is no query" {
		t.Errorf("told as %q", got)
	}
	if got := AtInstruction(0, Stack).Error(); got != "instruction 0: the stack or the slots are not as they must be" {
		t.Errorf("told as %q", got)
	}
}

func TestWholeTextHasNoPlace(t *testing.T) {
	var at *Fault
	if errors.As(Long, &at) {
		t.Error("a fault of the whole text has a place")
	}
}
