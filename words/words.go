// Package words: what names, words and numbers are, in queries and in stores.
package words

import "gauge/api"

const maxWord = 8

// IsLetter tells whether a byte is one of a to z.
func IsLetter(c byte) bool { return 'a' <= c && c <= 'z' }

// IsDigit tells whether a byte is one of 0 to 9.
func IsDigit(c byte) bool { return '0' <= c && c <= '9' }

// IsName tells whether a text is a NAME.
func IsName(text string) bool {
	if len(text) < 1 || len(text) > api.MaxName {
		return false
	}
	for i := range len(text) {
		if !IsLetter(text[i]) {
			return false
		}
	}
	return true
}

// IsWord tells whether a text is a WORD; the empty text is one.
func IsWord(text string) bool {
	if len(text) > maxWord {
		return false
	}
	for i := range len(text) {
		if !IsLetter(text[i]) && !IsDigit(text[i]) {
			return false
		}
	}
	return true
}

// Number reads a NUMBER that is at most most, and tells whether the text is one.
func Number(text string, most int) (int, bool) {
	if text == "" || text[0] == '0' && len(text) > 1 {
		return 0, false
	}
	value := 0
	for i := range len(text) {
		if !IsDigit(text[i]) {
			return 0, false
		}
		digit := int(text[i] - '0')
		// Asked ahead of the step, so that no number of digits can wrap round.
		if digit > most || value > (most-digit)/10 {
			return 0, false
		}
		value = value*10 + digit
	}
	return value, true
}
