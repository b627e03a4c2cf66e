package syntax

import (
	"reflect"
	"strings"
	"testing"
)

func TestLex(t *testing.T) {
	for _, c := range []struct {
		text string
		want []token
	}{
		{"", []token{{kind: endToken}}},
		{"  ", []token{{kind: endToken, at: 2}}},
		{"12ab 3", []token{{numberToken, 0, "12", 12}, {lettersToken, 2, "ab", 0}, {numberToken, 5, "3", 3}, {kind: endToken, at: 6}}},
		{`"" "a1"`, []token{{textToken, 0, "", 0}, {textToken, 3, "a1", 0}, {kind: endToken, at: 7}}},
		{"!==", []token{{markToken, 0, "!=", 0}, {markToken, 2, "=", 0}, {kind: endToken, at: 3}}},
		{"a!b", []token{{lettersToken, 0, "a", 0}, {kind: wrongToken, at: 1}}},
		{"a!", []token{{lettersToken, 0, "a", 0}, {kind: wrongToken, at: 1}}},
		{" 05 a", []token{{kind: wrongToken, at: 1}}},
		{"1000000001", []token{{kind: wrongToken}}},
		{"abcdefghi", []token{{kind: wrongToken}}},
		{`a "abcdefghi"`, []token{{lettersToken, 0, "a", 0}, {kind: wrongToken, at: 2}}},
		{`"abcdefgh`, []token{{kind: wrongToken}}},
		{`"`, []token{{kind: wrongToken}}},
		{"a\n", []token{{lettersToken, 0, "a", 0}, {kind: wrongToken, at: 1}}},
		{"a\xc3\xa9", []token{{lettersToken, 0, "a", 0}, {kind: wrongToken, at: 1}}},
	} {
		if got := lex(c.text); !reflect.DeepEqual(got, c.want) {
			t.Errorf("lex(%q) = %v, want %v", c.text, got, c.want)
		}
	}
}

func TestLexEachMark(t *testing.T) {
	for _, mark := range strings.Fields("( ) { } [ ] , = + - * / !=") {
		if got := lex(mark); len(got) != 2 || !got[0].isMark(mark) {
			t.Errorf("lex(%q) = %v", mark, got)
		}
	}
}
