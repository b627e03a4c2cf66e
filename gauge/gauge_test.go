package gauge

import (
	"math"
	"math/rand"
	"strings"
	"sync"
	"testing"

	"gauge/api"
	"gauge/fault"
)

func TestNumberOfEachFault(t *testing.T) {
	for _, c := range []struct {
		what error
		want api.Errno
	}{
		{nil, api.OK}, {fault.Long, api.ErrLong}, {fault.Syntax, api.ErrSyntax}, {fault.Deep, api.ErrDeep}, {fault.Type, api.ErrType}, {fault.Store, api.ErrStore}, {fault.Twice, api.ErrTwice}, {fault.Many, api.ErrMany}, {fault.Times, api.ErrTimes}, {fault.Code, api.ErrCode}, {fault.Sum, api.ErrSum}, {fault.Refer, api.ErrRefer}, {fault.Stack, api.ErrStack}, {fault.Fuel, api.ErrFuel},
	} {
		if got := numberOf(c.what); got != c.want || placeOf(c.what) != 0 {
			t.Errorf("%v: %d and the place %d", c.what, got, placeOf(c.what))
		}
		if c.what == nil {
			continue
		}
		if err := fault.AtLine(4, c.what); numberOf(err) != c.want || placeOf(err) != 4 {
			t.Errorf("%v: %d and the place %d", err, numberOf(err), placeOf(err))
		}
	}
}

// oddTexts gives texts of all sorts: queries, stores, code, and what is none.
func oddTexts() []string {
	m := maker{rand.New(rand.NewSource(3))}
	texts := []string{"", " ", "\n", "\x00", "\xff\xfe", "a", "a{}", "1", "é", manySeries(31), manySamples("a", 201), "cpu{host=a,job=x} 10:5 12:-7"}
	for c := range 256 {
		texts = append(texts, string([]byte{byte(c)}), strings.Repeat(string([]byte{byte(c)}), 300), strings.Repeat(string([]byte{byte(c)}), 6001))
	}
	for range 3000 {
		texts = append(texts, m.spoil(m.query(1+m.Intn(6)).loose))
		texts = append(texts, m.spoil("cpu{host=a,job=x} 10:5 12:-7\n\ncpu{} 1:1\nup{a=1}"))
		junk := make([]byte, m.Intn(40))
		m.Read(junk)
		texts = append(texts, string(junk))
		code := m.bend(m.code(1 + m.Intn(4)))
		texts = append(texts, code.code(), sealed(m.spoil(code.body())))
	}
	for range 300 {
		texts = append(texts, m.dense(5+m.Intn(3), new([]sample)).printed, m.smallCrowd())
	}
	return texts
}

func TestNothingBesideAnError(t *testing.T) {
	for _, text := range oddTexts() {
		printed, e, at := Print(text)
		if e == api.OK && (printed == "" || at != 0) || e != api.OK && printed != "" {
			t.Errorf("P1: Print(%.60q) = %q, %d, %d", text, printed, e, at)
		}
		if (e == api.ErrLong || e == api.ErrType) && at != 0 || at < 0 || at > len(text) {
			t.Errorf("P1: Print(%.60q) tells %d with %d", text, at, e)
		}
		checkNothingBeside(t, text)
		checkNothingBesideCode(t, text)
		checkNothingBesideCompile(t, text)
		e, at = Load(text)
		if e != api.ErrStore && e != api.ErrTwice && at != 0 || at < 0 || at > strings.Count(text, "\n") {
			t.Errorf("P1: Load(%.60q) tells %d with %d", text, at, e)
		}
	}
}

// checkNothingBeside looks at what Eval tells of a text, as a query and as a
// store.
func checkNothingBeside(t *testing.T, text string) {
	t.Helper()
	_, wanted, place := Print(text)
	if said, e, at := Eval(text, "", spanOf(0, 0, 1)); e != wanted || at != place || (said == "") != (e != api.OK) {
		t.Errorf("P1: Eval(%.60q) = %q, %d, %d", text, said, e, at)
	}
	wanted, place = Load(text)
	if said, e, at := Eval("a", text, spanOf(0, 0, 1)); e != wanted || at != place || (said == "") != (e != api.OK) {
		t.Errorf("P1: Eval of the store %.60q = %q, %d, %d", text, said, e, at)
	}
}

func checkNothingBesideCode(t *testing.T, text string) {
	t.Helper()
	need, wanted, place := Verify(text)
	if wanted != api.OK && need != (api.Need{}) || (wanted == api.OK || wanted == api.ErrSum) && place != 0 || place < 0 || place > len(text) {
		t.Errorf("P1: Verify(%.60q) = %v, %d, %d", text, need, wanted, place)
	}
	if said, e, at := Exec(text, "", spanOf(0, 0, 1), api.MaxFuel); e != wanted || at != place || (said == "") != (e != api.OK) {
		t.Errorf("P1: Exec(%.60q) = %q, %d, %d", text, said, e, at)
	}
	wanted, place = Load(text)
	if said, e, at := Exec(few(1, 0), text, spanOf(0, 0, 1), 1); e != wanted || at != place || (said == "") != (e != api.OK) {
		t.Errorf("P1: Exec on the store %.60q = %q, %d, %d", text, said, e, at)
	}
}

func checkNothingBesideCompile(t *testing.T, text string) {
	t.Helper()
	_, wanted, place := Print(text)
	for flags := range 8 {
		if code, e, at := Compile(text, flags); e != wanted || at != place || (code == "") != (e != api.OK) {
			t.Errorf("P1: Compile(%.60q, %d) = %q, %d, %d", text, flags, code, e, at)
		}
	}
	if wanted == api.OK {
		wanted = api.ErrRefer
	}
	for _, flags := range []int{-1, 8} {
		if code, e, at := Compile(text, flags); code != "" || e != wanted || at != place {
			t.Errorf("P1: Compile(%.60q, %d) = %q, %d, %d", text, flags, code, e, at)
		}
	}
}

func TestNoCallPanics(t *testing.T) {
	numbers := []int{math.MinInt, -1, 0, 1, 7, 8, math.MaxInt}
	for _, text := range oddTexts()[:100] {
		for _, n := range numbers {
			span := api.Span{First: n, Last: n, Step: n}
			Eval(text, text, span)
			Verify(text)
			Exec(text, text, span, n)
			Compile(text, n)
		}
	}
}

type told struct {
	printed, asQuery, asStore                 string
	print, load, evalQuery, evalStore         api.Errno
	printAt, loadAt, evalQueryAt, evalStoreAt int

	need                       api.Need
	asCode, asCodesStore       string
	verify, exec, execStore    api.Errno
	verifyAt, execAt, storesAt int

	codes      [8]string
	compiles   [8]api.Errno
	compilesAt [8]int
}

const allQuery = `sum by (x,or) (a + b * cpu or abcdefgh) - total(cpu{host!=""}[9]) or cpu`

// allCode has slots, groups and a jump.
func allCode() string {
	return parts{[]int{7}, []string{"cpu", "up[9]"}, []string{"host,a", ""}, []int{1, 1, 2, 0, 10, 5, 11, 0, 1, 0, 12, 3, 13, 3, 5, 0, 13, 3, 6, 1, 10, 12, 4, 0, 3, 0}}.code()
}

func answerOf(text string) told {
	var a told
	a.printed, a.print, a.printAt = Print(text)
	a.load, a.loadAt = Load(text)
	a.asQuery, a.evalQuery, a.evalQueryAt = Eval(text, "a{x=1} 1:1 2:2\na{x=2} 1:3\nb{x=1} 2:7", spanOf(0, 3, 1))
	a.asStore, a.evalStore, a.evalStoreAt = Eval(allQuery, text, spanOf(1, 12, 3))
	a.need, a.verify, a.verifyAt = Verify(text)
	a.asCode, a.exec, a.execAt = Exec(text, "a{x=1} 1:1 2:2\na{x=2} 1:3\ncpu{or=1} 2:7", spanOf(0, 3, 1), 100)
	a.asCodesStore, a.execStore, a.storesAt = Exec(allCode(), text, spanOf(1, 12, 3), 1000)
	for flags := range a.codes {
		a.codes[flags], a.compiles[flags], a.compilesAt[flags] = Compile(text, flags)
	}
	return a
}

// P2: neither what was asked before, nor what is asked beside, changes an
// answer.
func TestAnswersHangOnArgumentsAlone(t *testing.T) {
	texts := oddTexts()
	first := make([]told, len(texts))
	for i, text := range texts {
		first[i] = answerOf(text)
	}
	for i := len(texts) - 1; i >= 0; i-- {
		if got := answerOf(strings.Clone(texts[i])); got != first[i] {
			t.Errorf("P2: %.60q: %v, then %v", texts[i], first[i], got)
		}
	}
	var workers sync.WaitGroup
	for w := range 4 {
		workers.Add(1)
		go func() {
			defer workers.Done()
			for i := w; i < len(texts); i += 2 {
				if got := answerOf(texts[i]); got != first[i] {
					t.Errorf("P2: %.60q: %v, then %v beside others", texts[i], first[i], got)
				}
			}
		}()
	}
	workers.Wait()
}
