package bytecode

import (
	"errors"
	"hash/crc32"
	"reflect"
	"strings"
	"testing"

	"gauge/api"
	"gauge/fault"
	"gauge/syntax"
)

func sealed(body string) string {
	sum := crc32.ChecksumIEEE([]byte(body))
	return body + string([]byte{byte(sum >> 24), byte(sum >> 16), byte(sum >> 8), byte(sum)})
}

const wholeBody = "g\x00\x02\x00\x02\x00\x02\x00\x02" + "\x00\x00\x01\x02\xff\xff\xff\xfe" + "\x00\x01c" + "\x00\x0fcpu{h!=\"x\"}[20]" + "\x00\x00" + "\x00\x04b,ab" + "\x01\x00\x01\x05\x01\x02"

func TestRead(t *testing.T) {
	want := Code{
		Constants: []int{258, -2},
		Selectors: []Selector{
			{From: syntax.Selector{Name: "c"}},
			{From: syntax.Selector{Name: "cpu", Conditions: []syntax.Condition{{Name: "h", Not: true, Text: "x"}}}, Length: 20},
		},
		Groups:       [][]string{nil, {"ab", "b"}},
		Instructions: []Instruction{{api.OpPick, 1}, {api.OpSum, 258}},
	}
	if got, err := Read(sealed(wholeBody)); err != nil || !reflect.DeepEqual(got, want) {
		t.Errorf("%v, %v, want %v", got, err, want)
	}
	if got, err := Read(sealed("g\x00\x00\x00\x00\x00\x00\x00\x00")); err != nil || !reflect.DeepEqual(got, Code{}) {
		t.Errorf("of code with nothing in it: %v, %v", got, err)
	}
}

func TestWrite(t *testing.T) {
	for _, body := range []string{
		wholeBody,
		"g\x00\x00\x00\x00\x00\x00\x00\x00",
		"g\x00\x02\x00\x00\x00\x00\x00\x00" + "\x3b\x9a\xca\x00" + "\xc4\x65\x36\x00",
		"g\x00\x00\x00\x01\x00\x00\x00\x00" + "\x01\x2c" + "c{" + strings.Repeat(`b="",`, 58) + `c="abc"}`,
		"g\x00\x00\x00\x00\x00\x00\x00\x01" + "\x0d\xff\xfe",
	} {
		body = strings.Replace(body, "b,ab", "ab,b", 1) // as Read gives it
		code, err := Read(sealed(body))
		if got := Write(code); err != nil || got != sealed(body) {
			t.Errorf("Write(%v) = %q, want %q (%v)", code, got, sealed(body), err)
		}
	}
	many := Code{Instructions: make([]Instruction, 65535)}
	if got := Write(many); got[:9] != "g\x00\x00\x00\x00\x00\x00\xff\xff" || len(got) != 9+3*65535+4 {
		t.Errorf("of 65535 instructions: %q and so on, %d bytes", got[:9], len(got))
	}
}

func checkPlace(t *testing.T, text string, place int) {
	t.Helper()
	_, err := Read(text)
	var at *fault.Fault
	if !errors.Is(err, fault.Code) || !errors.As(err, &at) || at.Place != place || at.Unit != "byte" {
		t.Errorf("Read(%.80q): %v, want the place %d", text, err, place)
	}
}

func TestReadEndsTooEarly(t *testing.T) {
	whole := sealed(wholeBody)
	for i := range len(whole) {
		checkPlace(t, whole[:i], i)
	}
	checkPlace(t, whole+"\x00", len(whole))
}

func TestReadSumIsWrong(t *testing.T) {
	whole := sealed(wholeBody)
	for i := len(whole) - 4; i < len(whole); i++ {
		for bit := range 8 {
			turned := []byte(whole)
			turned[i] ^= 1 << bit
			if code, err := Read(string(turned)); err != fault.Sum || !reflect.DeepEqual(code, Code{}) {
				t.Errorf("with bit %d of byte %d turned: %v, %v", bit, i, code, err)
			}
		}
	}
	turned := whole[:len(whole)-7] + "\x07" + whole[len(whole)-6:]
	if _, err := Read(turned); err != fault.Sum {
		t.Errorf("with another byte ahead of the sum: %v", err)
	}
}

func TestSumOf(t *testing.T) {
	for _, text := range []string{"", "\x00", "g", "123456789", "\xff\xff\xff\xff", strings.Repeat("gauge", 1000)} {
		if got, want := sumOf(text), crc32.ChecksumIEEE([]byte(text)); got != want {
			t.Errorf("sumOf(%.40q) = %d, want %d", text, got, want)
		}
	}
}

func TestReadSelector(t *testing.T) {
	for _, text := range []string{"a", "abcdefgh", "sumx", `a{b="c"}`, `a{by!="",or="0a9"}`, `a{` + strings.Repeat(`b="",`, 58) + `c="abc"}`} {
		for suffix, length := range map[string]int{"": 0, "[1]": 1, "[10]": 10, "[1000]": 1000} {
			got, ok := readSelector(text + suffix)
			if !ok || syntax.Print(got.From) != text || got.Length != length || got.IsRange() != (length > 0) {
				t.Errorf("readSelector(%q) = %v, %v", text+suffix, got, ok)
			}
		}
	}
	for _, text := range []string{
		"", " ", "a ", " a", "(a)", "-a", "1", "a + b", "a or b", "A", "abcdefghi", "sum", "rise", "or", "by", "a{}", "a {b=\"c\"}", `a{ b="c"}`, `a{b = "c"}`, `a{b="c", d="e"}`, `a{b="c",}`, `a{b=c}`, `a{b="abcdefghi"}`, "total(a[1])", "sum by () (a)", "a}", "a{",
		"[1]", "a[]", "a[0]", "a[01]", "a[1001]", "a[99999999999999999999]", "a[-1]", "a[+1]", "a[a]", "a[ 1]", "a[1 ]", "a [1]", "a[1] ", "a[1", "a1]", "a[1]]", "a[[1]", "a[1][1]", "a{}[1]", "a[1]{}", "1[1]",
		`a{` + strings.Repeat(`b="",`, 58) + `c="abcd"}`,
	} {
		if got, ok := readSelector(text); ok {
			t.Errorf("readSelector(%q) = %v", text, got)
		}
	}
}

func TestReadGroup(t *testing.T) {
	for text, want := range map[string][]string{"": nil, "a": {"a"}, "b,a": {"a", "b"}, "or,by,sum": {"by", "or", "sum"}, "a,aa,aaa": {"a", "aa", "aaa"}, "abcdefgh": {"abcdefgh"}} {
		if got, ok := readGroup(text); !ok || !reflect.DeepEqual(got, want) {
			t.Errorf("readGroup(%q) = %q, %v, want %q", text, got, ok, want)
		}
	}
	for _, text := range []string{",", "a,", ",a", "a,,b", "a,a", "b,a,b", "a, b", " ", "A", "a1", "abcdefghi", "a;b", "(a)", "a\n"} {
		if got, ok := readGroup(text); ok {
			t.Errorf("readGroup(%q) = %q", text, got)
		}
	}
}
