package syntax

import (
	"strings"

	"gauge/api"
	"gauge/words"
)

type tokenKind int

const (
	numberToken  tokenKind = iota
	lettersToken           // a name, or one of the words that queries have
	textToken              // its text is without the quotes
	markToken
	endToken
	wrongToken // can stand nowhere
)

const oneByteMarks = "(){}[],=+-*/"

type token struct {
	kind  tokenKind
	at    int // of its first byte
	text  string
	value int // of a number
}

func (t token) isMark(text string) bool { return t.kind == markToken && t.text == text }

func (t token) isWord(text string) bool { return t.kind == lettersToken && t.text == text }

// lex cuts a text into tokens. The last one is an endToken; or the first
// wrongToken, since nothing behind that one is ever asked for.
func lex(text string) []token {
	var tokens []token
	at := 0
scan:
	for at < len(text) {
		c := text[at]
		switch {
		case c == ' ':
			at++
			continue scan
		case words.IsDigit(c):
			end := endOfRun(text, at, words.IsDigit)
			value, ok := words.Number(text[at:end], api.MaxValue)
			if !ok {
				break scan
			}
			tokens = append(tokens, token{kind: numberToken, at: at, text: text[at:end], value: value})
			at = end
		case words.IsLetter(c):
			end := endOfRun(text, at, words.IsLetter)
			if !words.IsName(text[at:end]) {
				break scan
			}
			tokens = append(tokens, token{kind: lettersToken, at: at, text: text[at:end]})
			at = end
		case c == '"':
			for end := at + 1; end < len(text); end++ {
				if text[end] == '"' {
					tokens = append(tokens, token{kind: textToken, at: at, text: text[at+1 : end]})
					at = end + 1
					continue scan
				}
				if !words.IsWord(text[at+1 : end+1]) {
					break scan
				}
			}
			break scan
		default:
			mark := markAt(text, at)
			if mark == "" {
				break scan
			}
			tokens = append(tokens, token{kind: markToken, at: at, text: mark})
			at += len(mark)
		}
	}
	if at < len(text) {
		return append(tokens, token{kind: wrongToken, at: at})
	}
	return append(tokens, token{kind: endToken, at: at})
}

func endOfRun(text string, at int, belongs func(byte) bool) int {
	for at < len(text) && belongs(text[at]) {
		at++
	}
	return at
}

// markAt gives the mark that begins at a place, or nothing if none does.
func markAt(text string, at int) string {
	if strings.HasPrefix(text[at:], "!=") {
		return "!="
	}
	if strings.IndexByte(oneByteMarks, text[at]) >= 0 {
		return text[at : at+1]
	}
	return ""
}
