package eval

import (
	"testing"

	"gauge/series"
	"gauge/syntax"
)

func TestAnswer(t *testing.T) {
	all, err := series.Read("c{h=a} 1:5 4:8\nc{h=b} 4:2\nd{h=a} 4:3")
	if err != nil {
		t.Fatal(err)
	}
	for _, c := range []struct{ query, want string }{
		{"7", "1 7\n4 7"},
		{"-c", "1 {h=a}-5\n4 {h=a}-8 {h=b}-2"},
		{"c - d", "1\n4 {h=a}5"},
		{"d or c", "1 {h=a}5\n4 {h=a}3"},
		{"max by () (c)", "1 {}5\n4 {}8"},
		{"rise(c[4])", "1 {h=a}0\n4 {h=a}3 {h=b}0"},
		{`c{h="b"}`, "1\n4 {h=b}2"},
	} {
		query, err := syntax.Read(c.query)
		if err != nil {
			t.Fatal(err)
		}
		if got := Answer(query, all, []int{1, 4}); got != c.want {
			t.Errorf("%s: %q, want %q", c.query, got, c.want)
		}
		if got := Answer(query, all, nil); got != "" {
			t.Errorf("%s at no time: %q", c.query, got)
		}
	}
}
