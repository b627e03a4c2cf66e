package bytecode

import (
	"gauge/api"
	"gauge/fault"
)

const (
	firstByte    = 'g'
	countSize    = 2
	constantSize = 4
	argumentSize = 2
	sumSize      = 4
)

// Read reads code. A byte that cannot stand counts ahead of a wrong sum,
// wherever it stands.
func Read(text string) (Code, error) {
	r := reader{text: text}
	code, err := r.code()
	if err != nil {
		return Code{}, err
	}
	body := text[:r.at]
	sum, err := r.number(sumSize)
	if err != nil {
		return Code{}, err
	}
	if r.at < len(text) {
		return Code{}, cannotStand(r.at)
	}
	if uint32(sum) != sumOf(body) {
		return Code{}, fault.Sum
	}
	return code, nil
}

// reader goes through the bytes of code.
type reader struct {
	text string
	at   int
}

func cannotStand(at int) error { return fault.AtByte(at, fault.Code) }

// take takes some bytes, all of which must be there.
func (r *reader) take(size int) (string, error) {
	if len(r.text)-r.at < size {
		return "", cannotStand(len(r.text))
	}
	from := r.at
	r.at += size
	return r.text[from:r.at], nil
}

// number takes a number without a sign.
func (r *reader) number(size int) (int, error) {
	bytes, err := r.take(size)
	value := 0
	for i := range len(bytes) {
		value = value<<8 | int(bytes[i])
	}
	return value, err
}

func (r *reader) code() (Code, error) {
	var code Code
	if err := r.begin(); err != nil {
		return code, err
	}
	var counts [4]int
	for i := range counts {
		count, err := r.number(countSize)
		if err != nil {
			return code, err
		}
		counts[i] = count
	}
	var err error
	if code.Constants, err = readMany(r, counts[0], (*reader).constant); err != nil {
		return code, err
	}
	if code.Selectors, err = readMany(r, counts[1], (*reader).selector); err != nil {
		return code, err
	}
	if code.Groups, err = readMany(r, counts[2], (*reader).group); err != nil {
		return code, err
	}
	code.Instructions, err = readMany(r, counts[3], (*reader).instruction)
	return code, err
}

func readMany[T any](r *reader, count int, one func(*reader) (T, error)) ([]T, error) {
	var list []T
	for range count {
		item, err := one(r)
		if err != nil {
			return nil, err
		}
		list = append(list, item)
	}
	return list, nil
}

func (r *reader) begin() error {
	first, err := r.take(1)
	if err == nil && first[0] != firstByte {
		return cannotStand(0)
	}
	return err
}

func (r *reader) constant() (int, error) {
	from := r.at
	number, err := r.number(constantSize)
	if err != nil {
		return 0, err
	}
	value := int(int32(uint32(number)))
	if value < -api.MaxValue || value > api.MaxValue {
		return 0, cannotStand(from)
	}
	return value, nil
}

func (r *reader) instruction() (Instruction, error) {
	from := r.at
	op, err := r.number(1)
	if err != nil {
		return Instruction{}, err
	}
	if op > api.OpLoad {
		return Instruction{}, cannotStand(from)
	}
	argument, err := r.number(argumentSize)
	return Instruction{Op: op, Argument: argument}, err
}

// sizedText takes a text with its length ahead of it.
func (r *reader) sizedText() (string, error) {
	size, err := r.number(countSize)
	if err != nil {
		return "", err
	}
	return r.take(size)
}

func (r *reader) selector() (Selector, error) {
	from := r.at
	text, err := r.sizedText()
	if err != nil {
		return Selector{}, err
	}
	selector, ok := readSelector(text)
	if !ok {
		return Selector{}, cannotStand(from)
	}
	return selector, nil
}

func (r *reader) group() ([]string, error) {
	from := r.at
	text, err := r.sizedText()
	if err != nil {
		return nil, err
	}
	names, ok := readGroup(text)
	if !ok {
		return nil, cannotStand(from)
	}
	return names, nil
}
