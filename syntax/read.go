package syntax

import (
	"gauge/api"
	"gauge/fault"
)

// Read reads a query and looks over the kinds of its parts.
func Read(text string) (Part, error) {
	if len(text) > api.MaxQuery {
		return nil, fault.Long
	}
	r := reader{tokens: lex(text)}
	part, err := r.part(queryRank, 1)
	if err != nil {
		return nil, err
	}
	if r.token().kind != endToken {
		return nil, r.cannotStand()
	}
	if _, err := KindOf(part); err != nil {
		return nil, err
	}
	return part, nil
}

// reader goes through the tokens of a query. It never goes past the last one,
// as no part takes an endToken or a wrongToken.
type reader struct {
	tokens []token
	next   int
}

func (r *reader) token() token { return r.tokens[r.next] }

func (r *reader) cannotStand() error { return fault.AtByte(r.token().at, fault.Syntax) }

func (r *reader) takeMark(mark string) error {
	if !r.token().isMark(mark) {
		return r.cannotStand()
	}
	r.next++
	return nil
}

func (r *reader) takeWord(word string) error {
	if !r.token().isWord(word) {
		return r.cannotStand()
	}
	r.next++
	return nil
}

func (r *reader) takeName() (string, error) {
	t := r.token()
	if t.kind != lettersToken {
		return "", r.cannotStand()
	}
	r.next++
	return t.text, nil
}

// part reads what the table's line of a rank says. Its FACTORs are so deep.
func (r *reader) part(least rank, deep int) (Part, error) {
	if least == factorRank {
		return r.factor(deep)
	}
	left, err := r.part(least+1, deep)
	if err != nil {
		return nil, err
	}
	for {
		operator, ok := operatorOf(r.token())
		if !ok || operator.rank() != least {
			return left, nil
		}
		r.next++
		right, err := r.part(least+1, deep)
		if err != nil {
			return nil, err
		}
		left = Pair{Operator: operator, Left: left, Right: right}
	}
}

func operatorOf(t token) (Operator, bool) {
	switch {
	case t.isWord("or"):
		return Or, true
	case t.isMark("+"):
		return Add, true
	case t.isMark("-"):
		return Subtract, true
	case t.isMark("*"):
		return Multiply, true
	case t.isMark("/"):
		return Divide, true
	}
	return Or, false
}

func (r *reader) factor(deep int) (Part, error) {
	t := r.token()
	// What begins no FACTOR is none that could be too deep.
	if !beginsFactor(t) {
		return nil, r.cannotStand()
	}
	if deep > api.MaxDeep {
		return nil, fault.AtByte(t.at, fault.Deep)
	}
	switch {
	case t.kind == numberToken:
		r.next++
		return Number{Value: t.value}, nil
	case t.isMark("-"):
		r.next++
		of, err := r.factor(deep + 1)
		return Negative{Of: of}, err
	case t.isMark("("):
		return r.bracketed(deep + 1)
	case isGroupWord(t.text):
		r.next++
		return r.group(t.text, deep+1)
	case isWindowWord(t.text):
		r.next++
		return r.window(t.text)
	}
	return r.selector()
}

func beginsFactor(t token) bool {
	switch t.kind {
	case numberToken:
		return true
	case lettersToken:
		return t.text != "or" && t.text != "by"
	}
	return t.isMark("-") || t.isMark("(")
}

func (r *reader) bracketed(deep int) (Part, error) {
	if err := r.takeMark("("); err != nil {
		return nil, err
	}
	part, err := r.part(queryRank, deep)
	if err != nil {
		return nil, err
	}
	return part, r.takeMark(")")
}

// group reads what stands behind a group's word.
func (r *reader) group(word string, deep int) (Part, error) {
	if err := r.takeWord("by"); err != nil {
		return nil, err
	}
	names, err := readList(r, "(", ")", (*reader).takeName)
	if err != nil {
		return nil, err
	}
	of, err := r.bracketed(deep)
	return Group{Word: word, Names: names, Of: of}, err
}

// window reads what stands behind a window's word.
func (r *reader) window(word string) (Part, error) {
	if err := r.takeMark("("); err != nil {
		return nil, err
	}
	from, err := r.selector()
	if err != nil {
		return nil, err
	}
	length, err := r.windowLength()
	if err != nil {
		return nil, err
	}
	return Window{Word: word, From: from, Length: length}, r.takeMark(")")
}

func (r *reader) windowLength() (int, error) {
	if err := r.takeMark("["); err != nil {
		return 0, err
	}
	t := r.token()
	if t.kind != numberToken || t.value < 1 || t.value > api.MaxWindow {
		return 0, r.cannotStand()
	}
	r.next++
	return t.value, r.takeMark("]")
}

func (r *reader) selector() (Selector, error) {
	if !canNameSeries(r.token().text) {
		return Selector{}, r.cannotStand()
	}
	name, err := r.takeName()
	if err != nil || !r.token().isMark("{") {
		return Selector{Name: name}, err
	}
	conditions, err := readList(r, "{", "}", (*reader).condition)
	return Selector{Name: name, Conditions: conditions}, err
}

func (r *reader) condition() (Condition, error) {
	name, err := r.takeName()
	if err != nil {
		return Condition{}, err
	}
	sign := r.token()
	if !sign.isMark("=") && !sign.isMark("!=") {
		return Condition{}, r.cannotStand()
	}
	r.next++
	t := r.token()
	if t.kind != textToken {
		return Condition{}, r.cannotStand()
	}
	r.next++
	return Condition{Name: name, Not: sign.text == "!=", Text: t.text}, nil
}

// readList reads none or more items, with a comma between each two, from an
// opening mark to a closing one.
func readList[T any](r *reader, opening, closing string, item func(*reader) (T, error)) ([]T, error) {
	if err := r.takeMark(opening); err != nil {
		return nil, err
	}
	var list []T
	for !r.token().isMark(closing) {
		if len(list) > 0 {
			if err := r.takeMark(","); err != nil {
				return nil, err
			}
		}
		one, err := item(r)
		if err != nil {
			return nil, err
		}
		list = append(list, one)
	}
	return list, r.takeMark(closing)
}
