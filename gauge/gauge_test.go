package gauge

import (
	"math"
	"math/rand"
	"strings"
	"sync"
	"testing"

	"gauge/api"
	"gauge/fault"
)

func TestNumberOfEachFault(t *testing.T) {
	for _, c := range []struct {
		what error
		want api.Errno
	}{
		{nil, api.OK}, {fault.Long, api.ErrLong}, {fault.Syntax, api.ErrSyntax}, {fault.Deep, api.ErrDeep}, {fault.Type, api.ErrType}, {fault.Store, api.ErrStore}, {fault.Twice, api.ErrTwice}, {fault.Many, api.ErrMany}, {fault.Times, api.ErrTimes},
	} {
		if got := numberOf(c.what); got != c.want || placeOf(c.what) != 0 {
			t.Errorf("%v: %d and the place %d", c.what, got, placeOf(c.what))
		}
		if c.what == nil {
			continue
		}
		if err := fault.AtLine(4, c.what); numberOf(err) != c.want || placeOf(err) != 4 {
			t.Errorf("%v: %d and the place %d", err, numberOf(err), placeOf(err))
		}
	}
}

// oddTexts gives texts of all sorts: queries, stores, and what is neither.
func oddTexts() []string {
	m := maker{rand.New(rand.NewSource(3))}
	texts := []string{"", " ", "\n", "\x00", "\xff\xfe", "a", "a{}", "1", "é", manySeries(31), manySamples("a", 201), "cpu{host=a,job=x} 10:5 12:-7"}
	for c := range 256 {
		texts = append(texts, string([]byte{byte(c)}), strings.Repeat(string([]byte{byte(c)}), 300), strings.Repeat(string([]byte{byte(c)}), 6001))
	}
	for range 3000 {
		texts = append(texts, m.spoil(m.query(1+m.Intn(6)).loose))
		texts = append(texts, m.spoil("cpu{host=a,job=x} 10:5 12:-7\n\ncpu{} 1:1\nup{a=1}"))
		junk := make([]byte, m.Intn(40))
		m.Read(junk)
		texts = append(texts, string(junk))
	}
	return texts
}

func TestNothingBesideAnError(t *testing.T) {
	for _, text := range oddTexts() {
		printed, e, at := Print(text)
		if e == api.OK && (printed == "" || at != 0) || e != api.OK && printed != "" {
			t.Errorf("P1: Print(%.60q) = %q, %d, %d", text, printed, e, at)
		}
		if (e == api.ErrLong || e == api.ErrType) && at != 0 || at < 0 || at > len(text) {
			t.Errorf("P1: Print(%.60q) tells %d with %d", text, at, e)
		}
		checkNothingBeside(t, text)
		e, at = Load(text)
		if e != api.ErrStore && e != api.ErrTwice && at != 0 || at < 0 || at > strings.Count(text, "\n") {
			t.Errorf("P1: Load(%.60q) tells %d with %d", text, at, e)
		}
	}
}

// checkNothingBeside looks at what Eval tells of a text, as a query and as a
// store.
func checkNothingBeside(t *testing.T, text string) {
	t.Helper()
	_, wanted, place := Print(text)
	if said, e, at := Eval(text, "", spanOf(0, 0, 1)); e != wanted || at != place || (said == "") != (e != api.OK) {
		t.Errorf("P1: Eval(%.60q) = %q, %d, %d", text, said, e, at)
	}
	wanted, place = Load(text)
	if said, e, at := Eval("a", text, spanOf(0, 0, 1)); e != wanted || at != place || (said == "") != (e != api.OK) {
		t.Errorf("P1: Eval of the store %.60q = %q, %d, %d", text, said, e, at)
	}
}

func TestNoCallPanics(t *testing.T) {
	numbers := []int{math.MinInt, -1, 0, 1, 7, 8, math.MaxInt}
	for _, text := range oddTexts()[:100] {
		for _, n := range numbers {
			span := api.Span{First: n, Last: n, Step: n}
			Eval(text, text, span)
			Verify(text)
			Exec(text, text, span, n)
			Compile(text, n)
		}
	}
}

type told struct {
	printed, asQuery, asStore                 string
	print, load, evalQuery, evalStore         api.Errno
	printAt, loadAt, evalQueryAt, evalStoreAt int
}

const allQuery = `sum by (x,or) (a + b * cpu or abcdefgh) - total(cpu{host!=""}[9]) or cpu`

func answerOf(text string) told {
	var a told
	a.printed, a.print, a.printAt = Print(text)
	a.load, a.loadAt = Load(text)
	a.asQuery, a.evalQuery, a.evalQueryAt = Eval(text, "a{x=1} 1:1 2:2\na{x=2} 1:3\nb{x=1} 2:7", spanOf(0, 3, 1))
	a.asStore, a.evalStore, a.evalStoreAt = Eval(allQuery, text, spanOf(1, 12, 3))
	return a
}

// P2: neither what was asked before, nor what is asked beside, changes an
// answer.
func TestAnswersHangOnArgumentsAlone(t *testing.T) {
	texts := oddTexts()
	first := make([]told, len(texts))
	for i, text := range texts {
		first[i] = answerOf(text)
	}
	for i := len(texts) - 1; i >= 0; i-- {
		if got := answerOf(strings.Clone(texts[i])); got != first[i] {
			t.Errorf("P2: %.60q: %v, then %v", texts[i], first[i], got)
		}
	}
	var workers sync.WaitGroup
	for w := range 4 {
		workers.Add(1)
		go func() {
			defer workers.Done()
			for i := w; i < len(texts); i += 2 {
				if got := answerOf(texts[i]); got != first[i] {
					t.Errorf("P2: %.60q: %v, then %v beside others", texts[i], first[i], got)
				}
			}
		}()
	}
	workers.Wait()
}
