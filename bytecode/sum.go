package bytecode

const (
	sumBegin = 4294967295
	sumTurn  = 3988292384
)

// sumOf works out the sum of a text's bytes.
func sumOf(text string) uint32 {
	sum := uint32(sumBegin)
	for i := range len(text) {
		sum ^= uint32(text[i])
		for range 8 {
			fell := sum & 1
			sum >>= 1
			if fell == 1 {
				sum ^= sumTurn
			}
		}
	}
	return ^sum
}
