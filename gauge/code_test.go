package gauge

import (
	"hash/crc32"
	"math"
	"slices"
	"strings"
	"testing"

	"gauge/api"
)

// parts is what code is made of; instructions and their arguments stand there
// by turns.
type parts struct {
	constants         []int
	selectors, groups []string
	instructions      []int
}

func two(n int) string { return string([]byte{byte(n >> 8), byte(n)}) }

func four(n int) string { return two(n>>16) + two(n) }

func sealed(body string) string { return body + four(int(crc32.ChecksumIEEE([]byte(body)))) }

// body gives the code's bytes without its sum.
func (p parts) body() string {
	var b strings.Builder
	b.WriteString("g" + two(len(p.constants)) + two(len(p.selectors)) + two(len(p.groups)) + two(len(p.instructions)/2))
	for _, n := range p.constants {
		b.WriteString(four(n))
	}
	for _, text := range slices.Concat(p.selectors, p.groups) {
		b.WriteString(two(len(text)) + text)
	}
	for one := range slices.Chunk(p.instructions, 2) {
		b.WriteString(string([]byte{byte(one[0])}) + two(one[1]))
	}
	return b.String()
}

func (p parts) code() string { return sealed(p.body()) }

// few gives code with a constant, a selector of each kind and one group.
func few(instructions ...int) string {
	return parts{[]int{7}, []string{"c", "c[3]"}, []string{"h"}, instructions}.code()
}

func checkNeed(t *testing.T, code string, stack, slots int) {
	t.Helper()
	if need, e, at := Verify(code); need != (api.Need{Stack: stack, Slots: slots}) || e != api.OK || at != 0 {
		t.Errorf("P6: Verify(%.80q) = %v, %d, %d, want %d, %d", code, need, e, at, stack, slots)
	}
}

func checkNoCode(t *testing.T, code string, want api.Errno, place int) {
	t.Helper()
	if need, e, at := Verify(code); need != (api.Need{}) || e != want || at != place {
		t.Errorf("P6: Verify(%.80q) = %v, %d, %d, want %d, %d", code, need, e, at, want, place)
	}
}

func TestVerifyExamples(t *testing.T) {
	checkNeed(t, few(0, 0, 0, 0, 3, 0), 2, 0)
	checkNoCode(t, few(3, 0), api.ErrStack, 0)
	checkNoCode(t, few(0, 0, 0, 0), api.ErrStack, 2)
	checkNoCode(t, few(0, 1), api.ErrRefer, 0)
	checkNeed(t, few(0, 0, 12, 7, 13, 7), 1, 8)
	checkNeed(t, few(1, 0, 10, 4, 11, 0, 1, 0), 1, 0)
	checkNoCode(t, few(1, 0, 10, 4, 11, 0, 0, 0), api.ErrStack, 4)
}

func TestVerifyFirstByteAndCounts(t *testing.T) {
	checkNoCode(t, "", api.ErrCode, 0)
	checkNoCode(t, "G", api.ErrCode, 0)
	checkNoCode(t, "f"+few(0, 0)[1:], api.ErrCode, 0)
	whole := parts{[]int{7, -7}, []string{"c", `c{h="x"}[3]`}, []string{"h,j", ""}, []int{0, 0}}.code()
	checkNeed(t, whole, 1, 0)
	for i := range len(whole) {
		checkNoCode(t, whole[:i], api.ErrCode, i)
	}
	for _, behind := range []string{"\x00", "g", whole} {
		checkNoCode(t, whole+behind, api.ErrCode, len(whole))
	}
	// With a count that is one too great, what stands behind is read as another
	// part: as a constant and a text that ends too early, as a selector, as a
	// group and an instruction.
	for i, place := range []int{47, 33, 47} {
		counts := []byte(whole[:len(whole)-4])
		counts[2+2*i]++
		checkNoCode(t, sealed(string(counts)), api.ErrCode, place)
	}
	checkNoCode(t, parts{}.code(), api.ErrStack, 0)
}

func TestVerifyConstants(t *testing.T) {
	const most = 1000000000
	at := func(n int) string { return parts{[]int{5, n}, nil, nil, []int{0, 1}}.code() }
	for _, n := range []int{0, -1, most, -most} {
		checkNeed(t, at(n), 1, 0)
	}
	for _, n := range []int{most + 1, -most - 1, math.MaxInt32, math.MinInt32} {
		checkNoCode(t, at(n), api.ErrCode, 13)
	}
	// In the middle of a constant it is the end that counts.
	for end := 13; end < 17; end++ {
		checkNoCode(t, at(math.MaxInt32)[:end], api.ErrCode, end)
	}
	checkNoCode(t, parts{[]int{most + 1, 5}, nil, nil, nil}.body()[:14], api.ErrCode, 9)
}

func TestVerifySelectors(t *testing.T) {
	longest := "c{" + strings.Repeat(`h="",`, 58) + `j="abc"}`
	at := func(text string) string { return parts{nil, []string{"c", text}, nil, []int{1, 0}}.code() }
	for _, text := range []string{"c", "abcdefgh", `c{h=""}`, `c{or!="a0",or="9"}`, longest} {
		for _, behind := range []string{"", "[1]", "[10]", "[999]", "[1000]"} {
			checkNeed(t, at(text+behind), 1, 0)
		}
	}
	for _, text := range []string{
		"", " ", "C", "1", "-c", "(c)", "c ", " c", "c{}", `c {h=""}`, `c{h= ""}`, `c{h="", j=""}`, `c{h="",}`, `c{h=x}`, `c{h="abcdefghi"}`, "c + c", "c or c", "or", "by", "sum", "rise", "sum by () (c)", "total(c[5])", "abcdefghi", "c{", "c}", "c\x00", "c\n",
		"[5]", "c[", "c]", "c[]", "c[0]", "c[00]", "c[05]", "c[1001]", "c[99999999999999999999]", "c[-5]", "c[a]", "c[ 5]", "c[5 ]", "c [5]", "c[5", "c[5] ", "c[5]]", "c[5][5]", "c{}[5]", "sum[5]", "1[5]",
		strings.Replace(longest, "abc", "abcd", 1), strings.Repeat("c", 301), strings.Repeat("c", 65535),
	} {
		checkNoCode(t, at(text), api.ErrCode, 12)
		// In the middle of a text it is the end that counts.
		body := parts{selectors: []string{"c", text}}.body()
		if text != "" {
			checkNoCode(t, body[:len(body)-1], api.ErrCode, len(body)-1)
		}
	}
}

func TestVerifyGroups(t *testing.T) {
	var names []string
	for i := range 10000 {
		names = append(names, string([]byte{byte('a' + i/1000), byte('a' + i/100%10), byte('a' + i/10%10), byte('a' + i%10)}))
	}
	many := strings.Join(names, ",")
	at := func(text string) string { return parts{[]int{1}, nil, []string{"h", text}, []int{0, 0}}.code() }
	for _, text := range []string{"", "h", "j,h", "or,by,sum", "a,aa,aaa", "abcdefgh", many} {
		checkNeed(t, at(text), 1, 0)
	}
	for _, text := range []string{",", "h,", ",h", "h,,j", "h,h", "h,j,h", "h, j", " h", "H", "h1", "1", "abcdefghi", "(h)", "h\n", many + ",aaaa", many + ",jjjj", many + ","} {
		checkNoCode(t, at(text), api.ErrCode, 16)
	}
}

func TestVerifyInstructionNumbers(t *testing.T) {
	for op := range 256 {
		code := parts{[]int{1}, nil, nil, []int{0, 0, op, 9999}}.code()
		if op > 13 {
			checkNoCode(t, code, api.ErrCode, 16)
			checkNoCode(t, code[:17], api.ErrCode, 16)
			continue
		}
		checkNoCode(t, code, api.ErrRefer, 1)
	}
}

func TestVerifySum(t *testing.T) {
	whole := few(0, 0)
	for i := len(whole) - 4; i < len(whole); i++ {
		turned := []byte(whole)
		turned[i] ^= 16
		checkNoCode(t, string(turned), api.ErrSum, 0)
		checkNoCode(t, string(turned)+"x", api.ErrCode, len(whole))
	}
	for _, instructions := range [][]int{{0, 9}, {3, 0}, {0, 0, 0, 0}} {
		code := few(instructions...)
		checkNoCode(t, code[:len(code)-4]+"\x00\x00\x00\x00", api.ErrSum, 0)
	}
	checkNoCode(t, few(14, 0)[:len(few(14, 0))-4]+"\x00\x00\x00\x00", api.ErrCode, 25)
	// The sum is of all bytes ahead of it.
	turned := []byte(whole)
	turned[12]++
	checkNoCode(t, string(turned), api.ErrSum, 0)
}

func TestVerifyRefer(t *testing.T) {
	for op, greatest := range []int{0, 1, 4, 3, 0, 0, 0, 0, 0, 3, 3, 0, 15, 15} {
		for _, argument := range []int{greatest + 1, 16, 256, 65535} {
			checkNoCode(t, few(0, 0, op, argument, 11, 0), api.ErrRefer, 1)
		}
		if _, e, _ := Verify(few(0, 0, op, greatest, 11, 0)); e == api.ErrRefer {
			t.Errorf("P6: instruction %d with %d: %d", op, greatest, e)
		}
	}
	for _, jump := range []int{9, 10} {
		checkNoCode(t, few(1, 0, jump, 0), api.ErrRefer, 1)
		checkNoCode(t, few(1, 0, jump, 1), api.ErrRefer, 1)
		checkNeed(t, few(1, 0, jump, 2), 1, 0)
		checkNoCode(t, few(1, 0, jump, 3), api.ErrRefer, 1)
	}
	// In what cannot be reached, too; and ahead of what cannot be done.
	checkNoCode(t, few(0, 0, 9, 3, 0, 1), api.ErrRefer, 2)
	checkNoCode(t, few(3, 0, 11, 0, 4, 1, 0, 1), api.ErrRefer, 2)
	none := parts{nil, nil, nil, []int{0, 0}}
	for _, op := range []int{0, 1, 5, 6, 7, 8} {
		none.instructions[0] = op
		checkNoCode(t, none.code(), api.ErrRefer, 0)
	}
}

// Each instruction is asked on each kind: that of a scalar, of a vector, of a
// range, and on an empty stack.
func TestVerifyKinds(t *testing.T) {
	put := map[string][]int{"": nil, "s": {0, 0}, "v": {1, 0}, "r": {1, 1}}
	for op, fine := range map[int]string{2: "r", 4: "sv", 5: "v", 6: "v", 7: "v", 8: "v", 10: "v", 11: "svr", 12: "svr"} {
		for kind, head := range put {
			argument := 0
			if op == 10 {
				argument = len(head)/2 + 1
			}
			code := few(slices.Concat(head, []int{op, argument, 0, 0, 9, len(head)/2 + 3})...)
			_, e, at := Verify(code)
			refused := e == api.ErrStack && at == len(head)/2
			if wanted := kind == "" || !strings.Contains(fine, kind); refused != wanted {
				t.Errorf("P6: instruction %d on %q: %d, %d", op, kind, e, at)
			}
		}
	}
	for x, below := range put {
		for y, above := range put {
			_, e, at := Verify(few(slices.Concat(below, above, []int{3, 0})...))
			fine := x != "" && y != "" && x != "r" && y != "r"
			if place := (len(below) + len(above)) / 2; fine && e != api.OK || !fine && (e != api.ErrStack || at != place) {
				t.Errorf("P6: OpArith on %q, %q: %d, %d", x, y, e, at)
			}
		}
	}
}

func TestVerifyKindsThatArePut(t *testing.T) {
	group := []int{5, 0}
	for _, c := range []struct {
		head   []int
		vector bool
	}{
		{[]int{0, 0}, false}, {[]int{1, 0}, true}, {[]int{1, 1, 2, 0}, true}, {[]int{0, 0, 4, 0}, false}, {[]int{1, 0, 4, 0}, true}, {[]int{1, 0, 8, 0}, true}, {[]int{0, 0, 0, 0, 3, 0}, false}, {[]int{0, 0, 1, 0, 3, 0}, true}, {[]int{1, 0, 0, 0, 3, 0}, true}, {[]int{1, 0, 1, 0, 3, 0}, true}, {[]int{0, 0, 12, 0, 13, 0}, false}, {[]int{1, 0, 12, 0, 13, 0}, true}, {[]int{1, 0, 0, 0, 12, 0}, true}, {[]int{0, 0, 1, 0, 11, 0}, false}, {[]int{1, 0, 10, 2}, true},
	} {
		_, e, at := Verify(few(c.head...))
		if e != api.OK {
			t.Errorf("P6: %v: %d, %d", c.head, e, at)
		}
		_, e, at = Verify(few(slices.Concat(c.head, group)...))
		if c.vector != (e == api.OK) || !c.vector && (e != api.ErrStack || at != len(c.head)/2) {
			t.Errorf("P6: %v and a group: %d, %d", c.head, e, at)
		}
	}
}

func TestVerifyEnd(t *testing.T) {
	checkNoCode(t, few(), api.ErrStack, 0)
	checkNoCode(t, few(1, 1), api.ErrStack, 1)
	checkNoCode(t, few(0, 0, 11, 0), api.ErrStack, 2)
	checkNoCode(t, few(0, 0, 12, 0), api.ErrStack, 2)
	checkNoCode(t, few(1, 0, 1, 0), api.ErrStack, 2)
	checkNoCode(t, few(1, 0, 1, 1), api.ErrStack, 2)
	checkNoCode(t, few(9, 1), api.ErrStack, 1)
	checkNoCode(t, few(9, 2, 0, 0), api.ErrStack, 2)
	// From both sides: with one and with none, with one and with two.
	checkNoCode(t, few(1, 0, 10, 3, 11, 0), api.ErrStack, 3)
	checkNoCode(t, few(1, 0, 10, 3, 0, 0), api.ErrStack, 3)
	checkNoCode(t, few(0, 0, 1, 0, 10, 4, 11, 0), api.ErrStack, 4)
}

func TestVerifyFromSeveral(t *testing.T) {
	// Stacks of other kinds at an instruction that takes nothing of them.
	checkNoCode(t, few(1, 0, 10, 4, 11, 0, 0, 0, 9, 5), api.ErrStack, 4)
	checkNoCode(t, few(1, 0, 10, 3, 0, 0, 11, 0, 0, 0), api.ErrStack, 3)
	checkNeed(t, few(1, 0, 10, 5, 1, 0, 3, 0, 9, 7, 4, 0, 9, 8, 4, 0), 2, 0)
	checkNeed(t, few(1, 0, 10, 5, 1, 0, 3, 0, 9, 7, 4, 0, 9, 7), 2, 0)
	// A jump that cannot be reached brings nothing.
	checkNeed(t, few(1, 0, 9, 4, 0, 0, 9, 4), 1, 0)
	checkNeed(t, few(1, 0, 9, 5, 11, 0, 11, 0, 10, 5, 4, 0), 1, 0)
	// What lies between a jump and where it leads is not looked at.
	checkNeed(t, few(0, 0, 9, 6, 3, 0, 2, 0, 11, 0, 13, 5), 1, 6)
	// From three, of which the last is another.
	checkNoCode(t, few(1, 0, 10, 6, 10, 6, 11, 0, 0, 0, 9, 6), api.ErrStack, 6)
}

func TestVerifySlots(t *testing.T) {
	for slot := range 16 {
		checkNeed(t, few(0, 0, 12, slot, 13, slot), 1, slot+1)
		checkNoCode(t, few(0, 0, 12, slot, 13, (slot+1)%16), api.ErrStack, 2)
		checkNoCode(t, few(13, slot), api.ErrStack, 0)
		checkNeed(t, few(0, 0, 9, 3, 13, slot), 1, slot+1)
	}
	checkNoCode(t, few(12, 0), api.ErrStack, 0)
	// The last kind counts.
	checkNoCode(t, few(1, 0, 12, 1, 0, 0, 12, 1, 13, 1, 5, 0), api.ErrStack, 5)
	checkNeed(t, few(0, 0, 12, 1, 1, 0, 12, 1, 13, 1, 5, 0), 1, 2)
	checkNeed(t, few(1, 1, 12, 1, 13, 1, 13, 1, 2, 0, 12, 2, 2, 0, 13, 2, 3, 0), 2, 3)
	// A slot that one side alone has filled, or with another kind.
	checkNoCode(t, few(1, 0, 10, 4, 0, 0, 12, 0, 13, 0, 3, 0), api.ErrStack, 4)
	checkNoCode(t, few(0, 0, 12, 0, 1, 0, 10, 6, 1, 0, 12, 0, 13, 0, 3, 0), api.ErrStack, 6)
	checkNeed(t, few(0, 0, 12, 0, 1, 0, 10, 6, 0, 0, 12, 0, 13, 0, 3, 0), 2, 1)
	// What has no kind may be filled anew.
	checkNeed(t, few(0, 0, 12, 0, 1, 0, 10, 6, 1, 0, 12, 0, 0, 0, 12, 0, 13, 0, 3, 0), 2, 1)
	checkNeed(t, few(0, 0, 12, 0, 1, 0, 10, 6, 1, 0, 12, 0), 2, 1)
}

func TestVerifyNeed(t *testing.T) {
	checkNeed(t, few(0, 0, 0, 0, 0, 0, 3, 0, 3, 0), 3, 0)
	checkNeed(t, few(0, 0, 9, 4, 0, 0, 0, 0), 1, 0)
	checkNeed(t, few(1, 0, 10, 4, 0, 0, 3, 0), 2, 0)
	checkNeed(t, few(0, 0, 12, 4, 13, 4), 1, 5)
	high := func(n int) []int {
		return slices.Concat(slices.Repeat([]int{0, 0}, n), slices.Repeat([]int{3, 0}, n-1))
	}
	checkNeed(t, few(high(64)...), 64, 0)
	checkNoCode(t, few(high(65)...), api.ErrStack, 64)
	full := slices.Repeat([]int{0, 0}, 64)
	for _, more := range [][]int{{0, 0}, {1, 0}, {1, 1}} {
		checkNoCode(t, few(slices.Concat(full, more)...), api.ErrStack, 64)
	}
	checkNoCode(t, few(slices.Concat([]int{0, 0, 12, 0}, full, []int{13, 0})...), api.ErrStack, 66)
	checkNoCode(t, few(slices.Concat(full, []int{4, 0})...), api.ErrStack, 65)
	long := slices.Concat([]int{0, 0}, slices.Repeat([]int{4, 0}, 65534))
	checkNeed(t, few(long...), 1, 0)
	long[len(long)-2] = api.OpOver
	checkNoCode(t, few(long...), api.ErrStack, 65534)
}
