package gauge

import (
	"math/rand"
	"strconv"
	"strings"
	"testing"

	"gauge/api"
)

// sample is a query that was made up: as it may be written, and as it must be
// printed.
type sample struct {
	loose, printed string
	line           int // of the document's table: 0 QUERY to 3 FACTOR
	vector, wrong  bool
}

type maker struct{ *rand.Rand }

func (m maker) pick(texts ...string) string { return texts[m.Intn(len(texts))] }

func (m maker) blanks() string { return m.pick("", "", " ", "  ") }

func (m maker) name() string { return m.pick("a", "b", "cpu", "abcdefgh") }

// at brackets a query where it must be bracketed, and now and then elsewhere.
func (m maker) at(s sample, least int) sample {
	if s.line < least {
		s.loose = "(" + m.blanks() + s.loose + m.blanks() + ")"
		s.printed = "(" + s.printed + ")"
	} else if m.Intn(5) == 0 {
		s.loose = "(" + s.loose + ")"
	}
	return s
}

func (m maker) leaf() sample {
	if m.Intn(4) == 0 {
		n := m.pick("0", "7", "10", "1000000000")
		return sample{loose: n, printed: n, line: 3}
	}
	s := m.selector()
	if m.Intn(2) == 0 {
		word, n := m.pick("total", "peak", "low", "size", "rise"), strconv.Itoa(m.length())
		s.loose = word + m.blanks() + "(" + m.blanks() + s.loose + m.blanks() + "[" + m.blanks() + n + m.blanks() + "]" + m.blanks() + ")"
		s.printed = word + "(" + s.printed + "[" + n + "])"
	}
	return s
}

// length gives that of a window: short, long or the longest.
func (m maker) length() int { return []int{1 + m.Intn(15), 1 + m.Intn(1000), 1000}[m.Intn(3)] }

func (m maker) label() string { return m.pick("x", "or", "sum") }

func (m maker) selector() sample {
	name := m.name()
	var loose, printed []string
	for range m.Intn(3) {
		label, sign, text := m.label(), m.pick("=", "!="), m.pick(`""`, `"1"`, `"abcdefgh"`)
		loose = append(loose, m.blanks()+label+m.blanks()+sign+m.blanks()+text+m.blanks())
		printed = append(printed, label+sign+text)
	}
	s := sample{loose: name, printed: name, line: 3, vector: true}
	if len(printed) > 0 || m.Intn(2) == 0 {
		s.loose += m.blanks() + "{" + strings.Join(loose, ",") + "}"
	}
	if len(printed) > 0 {
		s.printed += "{" + strings.Join(printed, ",") + "}"
	}
	return s
}

func (m maker) query(depth int) sample {
	switch {
	case depth == 0 || m.Intn(6) == 0:
		return m.leaf()
	case m.Intn(4) == 0:
		s := m.at(m.query(depth-1), 3)
		return sample{"-" + m.blanks() + s.loose, "-" + s.printed, 3, s.vector, s.wrong}
	case m.Intn(4) == 0:
		s := m.at(m.query(depth-1), 0)
		word, one, two := m.pick("sum", "max", "min", "count"), m.label(), m.pick(m.label(), m.name())
		s.loose = word + " by" + m.blanks() + "(" + one + m.blanks() + "," + m.blanks() + two + ")" + m.blanks() + "(" + m.blanks() + s.loose + ")"
		s.printed = word + " by (" + one + "," + two + ") (" + s.printed + ")"
		return sample{s.loose, s.printed, 3, true, s.wrong || !s.vector}
	}
	return m.pair(depth)
}

func (m maker) pair(depth int) sample {
	line := m.Intn(3)
	sign := [][]string{{"or"}, {"+", "-"}, {"*", "/"}}[line][m.Intn(1+min(line, 1))]
	x, y := m.at(m.query(depth-1), line), m.at(m.query(depth-1), line+1)
	s := sample{line: line, vector: x.vector || y.vector, wrong: x.wrong || y.wrong}
	s.printed = x.printed + " " + sign + " " + y.printed
	s.loose = x.loose + m.blanks() + sign + m.blanks() + y.loose
	if sign == "or" {
		s.loose = x.loose + " or " + y.loose
		s.vector, s.wrong = true, s.wrong || !x.vector || !y.vector
	}
	return s
}

func TestPrintOfMadeUpQueries(t *testing.T) {
	m := maker{rand.New(rand.NewSource(1))}
	fine := 0
	for range 30000 {
		s := m.query(1 + m.Intn(5))
		got, e, at := Print(s.loose)
		want, wantError := s.printed, api.OK
		switch {
		case len(s.loose) > api.MaxQuery:
			want, wantError = "", api.ErrLong
		case s.wrong:
			want, wantError = "", api.ErrType
		default:
			fine++
		}
		if got != want || e != wantError || at != 0 {
			t.Fatalf("P3: Print(%q) = %q, %d, %d, want %q, %d", s.loose, got, e, at, want, wantError)
		}
		if e == api.OK && len(got) <= api.MaxQuery {
			checkPrinted(t, got, got)
			checkEachBracketNeeded(t, got)
		}
	}
	if fine < 5000 {
		t.Errorf("only %d made-up queries are queries", fine)
	}
}

func checkEachBracketNeeded(t *testing.T, printed string) {
	t.Helper()
	var open []int
	for i := range len(printed) {
		switch printed[i] {
		case '(':
			open = append(open, i)
		case ')':
			from := open[len(open)-1]
			open = open[:len(open)-1]
			bare := printed[:from] + " " + printed[from+1:i] + " " + printed[i+1:]
			if again, e, _ := Print(bare); e == api.OK && again == printed {
				t.Fatalf("P3: the brackets at %d and %d of %q are not needed", from, i, printed)
			}
		}
	}
}

// spoil changes some bytes of a text.
func (m maker) spoil(text string) string {
	const bytes = "ab0159 (){}[],=!+-*/\"\nA:or\x00\xff"
	for range 1 + m.Intn(3) {
		at := m.Intn(len(text) + 1)
		one := string(bytes[m.Intn(len(bytes))])
		switch behind := min(at+m.Intn(3), len(text)); m.Intn(3) {
		case 0:
			text = text[:at] + one + text[at:]
		case 1:
			text = text[:at] + text[behind:]
		default:
			text = text[:at] + one + text[behind:]
		}
	}
	return text
}

// What stands ahead of the place of an error can be gone on with: it is a
// query, or one that ends too early.
func TestPrintPlaceIsTheFirst(t *testing.T) {
	m := maker{rand.New(rand.NewSource(2))}
	for range 30000 {
		query := m.spoil(m.query(1 + m.Intn(4)).loose)
		_, e, place := Print(query)
		if e != api.ErrSyntax && e != api.ErrDeep {
			continue
		}
		if place < 0 || place > len(query) {
			t.Fatalf("P3: Print(%q) tells the place %d", query, place)
		}
		_, ahead, at := Print(query[:place])
		if ahead == api.ErrDeep || ahead == api.ErrSyntax && at != place {
			t.Fatalf("P3: Print(%q) tells %d, but of what stands ahead %d, %d", query, place, ahead, at)
		}
	}
}
