package series

import (
	"errors"
	"reflect"
	"testing"

	"gauge/fault"
	"gauge/labels"
)

func TestReadKeepsWhatStandsThere(t *testing.T) {
	got, err := Read("\ncpu{host=a,job=0x} 0:5 12:-7 1000000:0\n\nup{}\n")
	want := []Series{
		{Name: "cpu", Labels: labels.Of([]labels.Label{{Name: "host", Text: "a"}, {Name: "job", Text: "0x"}}), Samples: []Sample{{0, 5}, {12, -7}, {1000000, 0}}},
		{Name: "up"},
	}
	if err != nil || !reflect.DeepEqual(got, want) {
		t.Errorf("Read = %v, %v", got, err)
	}
}

func TestReadOfNothing(t *testing.T) {
	for _, text := range []string{"", "\n", "\n\n\n"} {
		if got, err := Read(text); len(got) != 0 || err != nil {
			t.Errorf("Read(%q) = %v, %v", text, got, err)
		}
	}
}

func TestReadWrapsByTheLine(t *testing.T) {
	for _, c := range []struct {
		text  string
		what  error
		place int
	}{
		{"\n\nc", fault.Store, 2}, {"c{}\n\nc{}", fault.Twice, 2},
	} {
		got, err := Read(c.text)
		var at *fault.Fault
		if got != nil || !errors.Is(err, c.what) || !errors.As(err, &at) || at.Place != c.place || at.Unit != "line" {
			t.Errorf("Read(%q) = %v, %v", c.text, got, err)
		}
	}
}
