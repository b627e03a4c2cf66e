package bytecode

import "strings"

// Write tells code as a text of bytes, with its sum. There may be no more of
// anything in it than two bytes can count.
func Write(code Code) string {
	text := []byte{firstByte}
	for _, count := range [...]int{len(code.Constants), len(code.Selectors), len(code.Groups), len(code.Instructions)} {
		text = appendNumber(text, count, countSize)
	}
	for _, constant := range code.Constants {
		text = appendNumber(text, constant, constantSize)
	}
	for _, selector := range code.Selectors {
		text = appendSized(text, selector.String())
	}
	for _, names := range code.Groups {
		text = appendSized(text, strings.Join(names, ","))
	}
	for _, one := range code.Instructions {
		text = appendNumber(append(text, byte(one.Op)), one.Argument, argumentSize)
	}
	return string(appendNumber(text, int(sumOf(string(text))), sumSize))
}

// appendNumber leaves away what is above so many bytes: so a negative number
// comes out modulo a power of 2.
func appendNumber(text []byte, number, size int) []byte {
	for i := size - 1; i >= 0; i-- {
		text = append(text, byte(number>>(8*i)))
	}
	return text
}

// appendSized puts a text's length ahead of it.
func appendSized(text []byte, one string) []byte {
	return append(appendNumber(text, len(one), countSize), one...)
}
