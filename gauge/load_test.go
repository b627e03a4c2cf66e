package gauge

import (
	"strconv"
	"strings"
	"testing"

	"gauge/api"
)

func checkLoad(t *testing.T, store string, want api.Errno, place int) {
	t.Helper()
	if e, at := Load(store); e != want || at != place {
		t.Errorf("P4: Load(%.60q) = %d, %d, want %d, %d", store, e, at, want, place)
	}
}

// manySeries gives a store of so many series without samples.
func manySeries(count int) string {
	var lines []string
	for i := range count {
		lines = append(lines, "c{h="+strconv.Itoa(i)+"}")
	}
	return strings.Join(lines, "\n")
}

// manySamples gives a series with so many samples.
func manySamples(name string, count int) string {
	line := name + "{}"
	for i := range count {
		line += " " + strconv.Itoa(i) + ":1"
	}
	return line
}

func TestLoadExamples(t *testing.T) {
	checkLoad(t, "cpu{host=a} 1:5 2:-7\n\ncpu{}", api.OK, 0)
	for _, line := range []string{"cpu{b=1,a=2}", "cpu{a=}", "cpu", "cpu{} 2:1 1:1", "cpu{} 1:-0"} {
		checkLoad(t, line, api.ErrStore, 0)
	}
}

func TestLoadSeries(t *testing.T) {
	for _, store := range []string{
		"", "\n", "\n\na{}\n\n", "cpu{host=a,job=x} 10:5 12:-7", "a{}", "a{} 0:0", "a{} 1000000:1000000000", "a{} 0:-1000000000 1000000:-1", "abcdefgh{abcdefgh=00000000}", "a{a=1,aa=1,ab=1,b=1}", "sum{by=or}", "or{}", "a{a=0,b=00} 9:1 10:1 100:1",
	} {
		checkLoad(t, store, api.OK, 0)
	}
}

func TestLoadNoSeries(t *testing.T) {
	for _, line := range []string{
		" ", "a", "{}", "a{", "a}", "a{}}", "a{{}", "a{}{}", " a{}", "a {}", "a{ }", "a{}\r", "a{}\t", "A{}", "a1{}", "abcdefghi{}", "é{}", "a-b{}", "a{}\x00",
		"a{b}", "a{=}", "a{b=}", "a{=c}", "a{b=C}", "a{b=abcdefghi}", "a{abcdefghi=c}", "a{b1=c}", `a{b="c"}`, "a{b!=c}", "a{b=c,}", "a{,b=c}", "a{b=c,,d=e}", "a{b=c d=e}", "a{b=c, d=e}", "a{b =c}", "a{b= c}", "a{b==c}", "a{b=c=d}", "a{b=c,b=c}", "a{b=c,b=d}", "a{c=1,b=1}", "a{ab=1,aa=1}", "a{aa=1,a=1}", "a{b=é}",
		"a{} ", "a{}1:1", "a{}  1:1", "a{} 1:1 ", "a{} 1:1  2:1", "a{} 1", "a{} 1:", "a{} :1", "a{} :", "a{} 1:1:1", "a{} 1: 1", "a{} 1 :1", "a{}\t1:1", "a{} 1:1,2:1", "a{} x:1", "a{} 1:x",
		"a{} 01:1", "a{} 00:1", "a{} -1:1", "a{} -0:1", "a{} +1:1", "a{} 1000001:1", "a{} 18446744073709551617:1", "a{} 1:1 1:2", "a{} 2:1 1:1", "a{} 10:1 9:1", "a{} 1:1 3:1 2:1",
		"a{} 1:01", "a{} 1:00", "a{} 1:-", "a{} 1:--1", "a{} 1:+1", "a{} 1:-01", "a{} 1:1-", "a{} 1:1000000001", "a{} 1:-1000000001", "a{} 1:18446744073709551617", "a{} 1:1.0", "a{} 1:1e3",
	} {
		checkLoad(t, line, api.ErrStore, 0)
		checkLoad(t, "x{}\n\n"+line+"\ny{}", api.ErrStore, 2)
		checkLoad(t, "\n"+line+"\n"+line, api.ErrStore, 1)
	}
}

func TestLoadTwice(t *testing.T) {
	checkLoad(t, "a{}\na{}", api.ErrTwice, 1)
	checkLoad(t, "a{} 1:1\n\nb{}\na{} 2:2\nb{}", api.ErrTwice, 3)
	checkLoad(t, "a{b=c,d=e}\na{b=c}\na{d=e}\na{b=c,d=e} 1:1", api.ErrTwice, 3)
	checkLoad(t, "b{}\na{}\na{}\nb{}", api.ErrTwice, 2)
	// Another name, another label or another text is another series.
	checkLoad(t, "a{}\nb{}\na{a=a}\nb{a=a}\na{a=b}\na{b=a}\naa{}\na{aa=a}\na{a=aa}\na{a=a,b=a}", api.OK, 0)
}

func TestLoadMany(t *testing.T) {
	checkLoad(t, manySeries(30), api.OK, 0)
	checkLoad(t, manySeries(31), api.ErrMany, 0)
	checkLoad(t, strings.ReplaceAll(manySeries(30), "\n", "\n\n\n"), api.OK, 0)
	checkLoad(t, manySamples("a", 200), api.OK, 0)
	checkLoad(t, manySamples("a", 201), api.ErrMany, 0)
	checkLoad(t, manySamples("a", 100)+"\n"+manySamples("b", 100), api.OK, 0)
	checkLoad(t, manySamples("a", 100)+"\n"+manySamples("b", 101), api.ErrMany, 0)
}

func TestLoadLong(t *testing.T) {
	checkLoad(t, "a{}"+strings.Repeat("\n", 5997), api.OK, 0)
	checkLoad(t, "a{}"+strings.Repeat("\n", 5998), api.ErrLong, 0)
	checkLoad(t, strings.Repeat("!", 6000), api.ErrStore, 0)
	checkLoad(t, strings.Repeat("!", 6001), api.ErrLong, 0)
	checkLoad(t, strings.Repeat("\n", 5999)+"!", api.ErrStore, 5999)
}

// The error that P4 names first is told, wherever its line stands.
func TestLoadFirstNamed(t *testing.T) {
	checkLoad(t, "a{}\na{}\na", api.ErrStore, 2)
	checkLoad(t, manySeries(31)+"\nc{h=30}", api.ErrTwice, 31)
	checkLoad(t, manySeries(31)+"\nc", api.ErrStore, 31)
	checkLoad(t, manySamples("a", 201)+"\na{}", api.ErrTwice, 1)
	checkLoad(t, manySamples("a", 201)+"\na{}\n ", api.ErrStore, 2)
	checkLoad(t, "a{}\na{}"+strings.Repeat("\n", 6000), api.ErrLong, 0)
}
