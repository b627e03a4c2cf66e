package words

import (
	"strings"
	"testing"
)

func TestNamesAndWords(t *testing.T) {
	for _, c := range []struct {
		text       string
		name, word bool
	}{
		{"", false, true}, {"a", true, true}, {"az", true, true}, {"abcdefgh", true, true}, {"abcdefghi", false, false},
		{"0", false, true}, {"a1", false, true}, {"00000000", false, true}, {"000000000", false, false},
		{"A", false, false}, {"`", false, false}, {"{", false, false}, {"/", false, false}, {":", false, false}, {"a b", false, false}, {"é", false, false}, {"\x00", false, false},
	} {
		if IsName(c.text) != c.name || IsWord(c.text) != c.word {
			t.Errorf("%q: name %v, word %v", c.text, IsName(c.text), IsWord(c.text))
		}
	}
}

func TestNumber(t *testing.T) {
	for _, c := range []struct {
		text  string
		most  int
		value int
		ok    bool
	}{
		{"0", 1000, 0, true}, {"7", 1000, 7, true}, {"999", 1000, 999, true}, {"1000", 1000, 1000, true}, {"1001", 1000, 0, false}, {"10000", 1000, 0, false},
		{"1000000000", 1000000000, 1000000000, true}, {"1000000001", 1000000000, 0, false}, {"9999999999", 1000000000, 0, false},
		{"18446744073709551617", 1000000000, 0, false}, {strings.Repeat("9", 5000), 1000000000, 0, false},
		{"", 1000, 0, false}, {"00", 1000, 0, false}, {"05", 1000, 0, false}, {"-1", 1000, 0, false}, {"+1", 1000, 0, false}, {"1a", 1000, 0, false}, {"1_0", 1000, 0, false}, {" 1", 1000, 0, false},
		{"5", 5, 5, true}, {"6", 5, 0, false}, {"0", 0, 0, true}, {"1", 0, 0, false},
	} {
		if value, ok := Number(c.text, c.most); value != c.value || ok != c.ok {
			t.Errorf("Number(%.30q, %d) = %d, %v", c.text, c.most, value, ok)
		}
	}
}
