package gauge

import (
	"math"
	"math/rand"
	"strings"
	"sync"
	"testing"

	"gauge/api"
	"gauge/fault"
)

func TestNumberOfEachFault(t *testing.T) {
	for _, c := range []struct {
		what error
		want api.Errno
	}{
		{nil, api.OK}, {fault.Long, api.ErrLong}, {fault.Syntax, api.ErrSyntax}, {fault.Deep, api.ErrDeep}, {fault.Type, api.ErrType}, {fault.Store, api.ErrStore}, {fault.Twice, api.ErrTwice}, {fault.Many, api.ErrMany},
	} {
		if got := numberOf(c.what); got != c.want || placeOf(c.what) != 0 {
			t.Errorf("%v: %d and the place %d", c.what, got, placeOf(c.what))
		}
		if c.what == nil {
			continue
		}
		if err := fault.AtLine(4, c.what); numberOf(err) != c.want || placeOf(err) != 4 {
			t.Errorf("%v: %d and the place %d", err, numberOf(err), placeOf(err))
		}
	}
}

// oddTexts gives texts of all sorts: queries, stores, and what is neither.
func oddTexts() []string {
	m := maker{rand.New(rand.NewSource(3))}
	texts := []string{"", " ", "\n", "\x00", "\xff\xfe", "a", "a{}", "1", "é", manySeries(31), manySamples("a", 201), "cpu{host=a,job=x} 10:5 12:-7"}
	for c := range 256 {
		texts = append(texts, string([]byte{byte(c)}), strings.Repeat(string([]byte{byte(c)}), 300), strings.Repeat(string([]byte{byte(c)}), 6001))
	}
	for range 3000 {
		texts = append(texts, m.spoil(m.query(1+m.Intn(6)).loose))
		texts = append(texts, m.spoil("cpu{host=a,job=x} 10:5 12:-7\n\ncpu{} 1:1\nup{a=1}"))
		junk := make([]byte, m.Intn(40))
		m.Read(junk)
		texts = append(texts, string(junk))
	}
	return texts
}

func TestNothingBesideAnError(t *testing.T) {
	for _, text := range oddTexts() {
		printed, e, at := Print(text)
		if e == api.OK && (printed == "" || at != 0) || e != api.OK && printed != "" {
			t.Errorf("P1: Print(%.60q) = %q, %d, %d", text, printed, e, at)
		}
		if (e == api.ErrLong || e == api.ErrType) && at != 0 || at < 0 || at > len(text) {
			t.Errorf("P1: Print(%.60q) tells %d with %d", text, at, e)
		}
		e, at = Load(text)
		if e != api.ErrStore && e != api.ErrTwice && at != 0 || at < 0 || at > strings.Count(text, "\n") {
			t.Errorf("P1: Load(%.60q) tells %d with %d", text, at, e)
		}
	}
}

func TestNoCallPanics(t *testing.T) {
	numbers := []int{math.MinInt, -1, 0, 1, 7, 8, math.MaxInt}
	for _, text := range oddTexts()[:100] {
		for _, n := range numbers {
			span := api.Span{First: n, Last: n, Step: n}
			Eval(text, text, span)
			Verify(text)
			Exec(text, text, span, n)
			Compile(text, n)
		}
	}
}

type answer struct {
	printed         string
	print, load     api.Errno
	printAt, loadAt int
}

func answerOf(text string) answer {
	var a answer
	a.printed, a.print, a.printAt = Print(text)
	a.load, a.loadAt = Load(text)
	return a
}

// P2: neither what was asked before, nor what is asked beside, changes an
// answer.
func TestAnswersHangOnArgumentsAlone(t *testing.T) {
	texts := oddTexts()
	first := make([]answer, len(texts))
	for i, text := range texts {
		first[i] = answerOf(text)
	}
	for i := len(texts) - 1; i >= 0; i-- {
		if got := answerOf(strings.Clone(texts[i])); got != first[i] {
			t.Errorf("P2: %.60q: %v, then %v", texts[i], first[i], got)
		}
	}
	var workers sync.WaitGroup
	for w := range 4 {
		workers.Add(1)
		go func() {
			defer workers.Done()
			for i := w; i < len(texts); i += 2 {
				if got := answerOf(texts[i]); got != first[i] {
					t.Errorf("P2: %.60q: %v, then %v beside others", texts[i], first[i], got)
				}
			}
		}()
	}
	workers.Wait()
}
