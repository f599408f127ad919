package mask_test

import (
	"math"
	"regexp"
	"slices"
	"strconv"
	"strings"
	"testing"

	"kaudit/api"
	"kaudit/mask"
)

const everyCall api.Mask = 1<<32 - 1

// sampleMasks returns valid masks: edge cases, all sets of eight calls at both ends, all ranges, and a fixed sequence of mixed ones.
func sampleMasks() []api.Mask {
	masks := []api.Mask{0, everyCall, 0x55555555, 0xaaaaaaaa, 0x80000001, 0x7ffffffe}
	for low := range api.Mask(1 << 8) {
		masks = append(masks, low, low<<24, everyCall&^low, everyCall&^(low<<24), low<<6)
	}
	for first := range api.MaxCalls {
		var m api.Mask
		for last := first; last < api.MaxCalls; last++ {
			m |= 1 << last
			masks = append(masks, m, everyCall&^m)
		}
	}
	state := uint32(1)
	for range 2000 {
		state ^= state << 13
		state ^= state >> 17
		state ^= state << 5
		masks = append(masks, api.Mask(state))
	}
	return masks
}

// numbersOf is a plain model of the numbers of a set.
func numbersOf(m api.Mask) []int {
	var l []int
	for n := range 32 {
		if m/(1<<n)%2 == 1 {
			l = append(l, n)
		}
	}
	return l
}

// textOf is a plain model of the text of a set.
func textOf(m api.Mask) string {
	l := numbersOf(m)
	if len(l) == 0 {
		return "none"
	}
	if len(l) == 32 {
		return "all"
	}
	var items []string
	for i := 0; i < len(l); {
		end := i
		for end+1 < len(l) && l[end+1] == l[end]+1 {
			end++
		}
		item := strconv.Itoa(l[i])
		if end > i {
			item += "-" + strconv.Itoa(l[end])
		}
		items = append(items, item)
		i = end + 1
	}
	return strings.Join(items, ",")
}

// P1.1

func TestValidLooksAtTheBitsBeyondTheCalls(t *testing.T) {
	for _, m := range []api.Mask{0, 1, 1 << 31, everyCall} {
		if !mask.Valid(m) {
			t.Errorf("Valid(%#x) is false", uint64(m))
		}
	}
	for n := 32; n < 64; n++ {
		for _, m := range []api.Mask{1 << n, 1<<n | 1, 1<<n | everyCall} {
			if mask.Valid(m) {
				t.Errorf("Valid(%#x) is true", uint64(m))
			}
		}
	}
	if mask.Valid(math.MaxUint64) {
		t.Error("all bits are valid")
	}
}

func TestOfMakesTheSet(t *testing.T) {
	for _, x := range []struct {
		numbers []int
		want    api.Mask
	}{
		{nil, 0},
		{[]int{}, 0},
		{[]int{0}, 1},
		{[]int{31}, 1 << 31},
		{[]int{7, 0, 31, 7, 1}, 1<<0 | 1<<1 | 1<<7 | 1<<31},
		{[]int{22, 21}, 1<<21 | 1<<22},
	} {
		if m, e := mask.Of(x.numbers); m != x.want || e != api.OK {
			t.Errorf("Of(%v) = %#x, %d", x.numbers, uint64(m), e)
		}
	}
}

func TestOfRefusesNumbersThatAreNoCalls(t *testing.T) {
	for _, n := range []int{-1, 32, 33, 63, 64, 65, 1 << 32, math.MinInt, math.MaxInt} {
		for _, l := range [][]int{{n}, {0, n}, {n, 0}, {1, n, 2}} {
			if m, e := mask.Of(l); m != 0 || e != api.ErrMaskCall {
				t.Errorf("Of(%v) = %#x, %d", l, uint64(m), e)
			}
		}
	}
}

func TestOfLeavesItsArgumentAlone(t *testing.T) {
	whole := []int{5, 3, 5, 40, 41}
	part := whole[:3]
	mask.Of(part)
	if !slices.Equal(whole, []int{5, 3, 5, 40, 41}) {
		t.Error("the argument or its spare capacity was changed:", whole)
	}
}

func TestListAscends(t *testing.T) {
	for _, m := range sampleMasks() {
		want := numbersOf(m)
		for _, beyond := range []api.Mask{0, 1 << 32, 1 << 63, math.MaxUint64 &^ everyCall} {
			if l := mask.List(m | beyond); !slices.Equal(l, want) {
				t.Fatalf("List(%#x) = %v", uint64(m|beyond), l)
			}
		}
	}
}

func TestListIsNewMemory(t *testing.T) {
	first := mask.List(7)
	first[0] = 30
	if second := mask.List(7); !slices.Equal(second, []int{0, 1, 2}) {
		t.Error("two lists share memory:", second)
	}
}

func TestHasAgreesWithList(t *testing.T) {
	for _, m := range sampleMasks() {
		l := mask.List(m)
		for n := -2; n < 70; n++ {
			if got, want := mask.Has(m, n), slices.Contains(l, n); got != want {
				t.Fatalf("Has(%#x, %d) = %v", uint64(m), n, got)
			}
		}
	}
}

func TestHasIgnoresWhatIsNoCall(t *testing.T) {
	for _, n := range []int{math.MinInt, -64, -32, -1, 32, 33, 63, 64, 1 << 32, math.MaxInt} {
		if mask.Has(math.MaxUint64, n) {
			t.Errorf("Has of all bits and %d is true", n)
		}
	}
	if !mask.Has(math.MaxUint64, 0) || !mask.Has(math.MaxUint64, 31) {
		t.Error("bits beyond the calls hide a call")
	}
}

func TestSetsSurviveOfAndList(t *testing.T) {
	for _, m := range sampleMasks() {
		if back, e := mask.Of(mask.List(m)); back != m || e != api.OK {
			t.Fatalf("Of(List(%#x)) = %#x, %d", uint64(m), uint64(back), e)
		}
	}
}

// P1.2

func TestFormatWritesLongestRanges(t *testing.T) {
	for _, x := range []struct {
		m    api.Mask
		want string
	}{
		{0, "none"},
		{everyCall, "all"},
		{1, "0"},
		{1 << 31, "31"},
		{3, "0-1"},
		{5, "0,2"},
		{0b10000111, "0-2,7"},
		{1<<31 - 1, "0-30"},
		{everyCall - 1, "1-31"},
		{1<<31 | 1<<30 | 1, "0,30-31"},
		{everyCall &^ (1 << 10), "0-9,11-31"},
		{0x55555555, "0,2,4,6,8,10,12,14,16,18,20,22,24,26,28,30"},
	} {
		if s := mask.Format(x.m); s != x.want {
			t.Errorf("Format(%#x) = %q, not %q", uint64(x.m), s, x.want)
		}
	}
	for _, m := range sampleMasks() {
		if s := mask.Format(m); s != textOf(m) {
			t.Fatalf("Format(%#x) = %q", uint64(m), s)
		}
	}
}

func TestFormatIgnoresBitsBeyondTheCalls(t *testing.T) {
	for _, x := range []struct {
		m    api.Mask
		want string
	}{
		{1 << 32, "none"},
		{1 << 63, "none"},
		{math.MaxUint64, "all"},
		{math.MaxUint64 &^ everyCall, "none"},
		{1<<32 | 1<<31, "31"},
		{math.MaxUint64 - 1, "1-31"},
		{1<<40 | 1, "0"},
	} {
		if s := mask.Format(x.m); s != x.want {
			t.Errorf("Format(%#x) = %q, not %q", uint64(x.m), s, x.want)
		}
	}
}

// P1.3

func TestParseAcceptsItemsInAnyOrder(t *testing.T) {
	for _, x := range []struct {
		s    string
		want api.Mask
	}{
		{"all", everyCall},
		{"none", 0},
		{"0", 1},
		{"31", 1 << 31},
		{"5-5", 1 << 5},
		{"0-31", everyCall},
		{"0-0,31-31", 1<<31 | 1},
		{"7,1-2,0-1", 0b10000111},
		{"31,31,31", 1 << 31},
		{"3-9,5-6", 0x3f8},
		{"10-12,9-11", 0x1e00},
		{"30-31,0-1", 3<<30 | 3},
	} {
		if m, e := mask.Parse(x.s); m != x.want || e != api.OK {
			t.Errorf("Parse(%q) = %#x, %d", x.s, uint64(m), e)
		}
	}
}

func TestParseRefusesOtherForms(t *testing.T) {
	for _, s := range []string{
		"", " ", ",", "-", "--", "x", "1,", ",1", "1,,2", "1-", "-1", "1--2", "1-2-3", "2-1", "31-0",
		"01", "00", "0-01", "00-1", "0000", "0001", "10000", "0-10000", "99999999999999999999", "18446744073709551616",
		"+1", "1 ", " 1", "1, 2", "1 -2", "1\n", "0x1", "1e1", "1_0", "1.", "\x00", "1\x00", "\xff", "１", "٣",
		"All", "ALL", "None", "all ", " all", "all,1", "1,all", "none,1", "1,none", "all,all", "none,none", "all-1", "alls",
		"1:2", "1/", "1;2", "1–2", "1-x", "x-1",
	} {
		if m, e := mask.Parse(s); m != 0 || e != api.ErrMaskForm {
			t.Errorf("Parse(%q) = %#x, %d", s, uint64(m), e)
		}
	}
}

func TestParseRefusesNumbersThatAreNoCalls(t *testing.T) {
	for _, s := range []string{
		"32", "33", "64", "99", "100", "999", "1000", "9999",
		"0-32", "31-32", "32-33", "0-9999", "9999-9999", "5000-6000",
		"3,99", "99,3", "0-31,32", "32,0-31",
	} {
		if m, e := mask.Parse(s); m != 0 || e != api.ErrMaskCall {
			t.Errorf("Parse(%q) = %#x, %d", s, uint64(m), e)
		}
	}
}

func TestParseNamesTheFormFirst(t *testing.T) {
	for _, s := range []string{"3,99,x", "99,x", "x,99", "99,", "40-39", "99,2-1", "32-31", "9999,01", "32,all", "32-", "10000,32"} {
		if m, e := mask.Parse(s); m != 0 || e != api.ErrMaskForm {
			t.Errorf("Parse(%q) = %#x, %d", s, uint64(m), e)
		}
	}
}

// modelParse reads a text in another way than the program: by an expression for the form, and by counting up from N to M.
func modelParse(form *regexp.Regexp, s string) (api.Mask, api.Errno) {
	if s == "all" {
		return everyCall, api.OK
	}
	if s == "none" {
		return 0, api.OK
	}
	if !form.MatchString(s) {
		return 0, api.ErrMaskForm
	}
	var m api.Mask
	e := api.OK
	for _, item := range strings.Split(s, ",") {
		ends := strings.Split(item, "-")
		first, _ := strconv.Atoi(ends[0])
		last, _ := strconv.Atoi(ends[len(ends)-1])
		if first > last {
			return 0, api.ErrMaskForm
		}
		for n := first; n <= last; n++ {
			if n > 31 {
				e = api.ErrMaskCall
				break
			}
			m |= 1 << n
		}
	}
	if e != api.OK {
		return 0, e
	}
	return m, api.OK
}

func TestParseOfAllShortTexts(t *testing.T) {
	form := regexp.MustCompile(`^(0|[1-9][0-9]{0,3})(-(0|[1-9][0-9]{0,3}))?(,(0|[1-9][0-9]{0,3})(-(0|[1-9][0-9]{0,3}))?)*$`)
	const letters = "0123,-x"
	texts := []string{""}
	for len(texts[0]) < 6 {
		var longer []string
		for _, s := range texts {
			wantMask, wantErrno := modelParse(form, s)
			if m, e := mask.Parse(s); m != wantMask || e != wantErrno {
				t.Fatalf("Parse(%q) = %#x, %d, not %#x, %d", s, uint64(m), e, uint64(wantMask), wantErrno)
			}
			for _, c := range letters {
				longer = append(longer, s+string(c))
			}
		}
		texts = longer
	}
}

func TestParseOfLongTexts(t *testing.T) {
	long := strings.Repeat("3,4-6,", 100000) + "31"
	if m, e := mask.Parse(long); m != 1<<31|0b1111000 || e != api.OK {
		t.Errorf("a long list: %#x, %d", uint64(m), e)
	}
	for _, s := range []string{strings.Repeat("1", 1<<20), strings.Repeat("-", 1<<20), strings.Repeat(",", 1<<20), long + ","} {
		if m, e := mask.Parse(s); m != 0 || e != api.ErrMaskForm {
			t.Errorf("a text of %d bytes: %#x, %d", len(s), uint64(m), e)
		}
	}
}

// P1.4

func TestTextsOfValidSetsAreReadBack(t *testing.T) {
	for _, m := range sampleMasks() {
		s := mask.Format(m)
		if back, e := mask.Parse(s); back != m || e != api.OK {
			t.Fatalf("Parse(Format(%#x)) = Parse(%q) = %#x, %d", uint64(m), s, uint64(back), e)
		}
	}
}

// shortestLength tries, from the highest call down, every item that may begin at a call; overlapping items are never shorter.
func shortestLength(m api.Mask) int {
	if m == everyCall {
		return len("all")
	}
	if m == 0 {
		return len("none")
	}
	var shortest [33]int
	for n := 31; n >= 0; n-- {
		shortest[n] = shortest[n+1]
		if m>>n&1 == 0 {
			continue
		}
		shortest[n] = math.MaxInt
		for last := n; last < 32 && m>>last&1 == 1; last++ {
			item := len(strconv.Itoa(n)) + 1
			if last > n {
				item += len(strconv.Itoa(last)) + 1
			}
			shortest[n] = min(shortest[n], item+shortest[last+1])
		}
	}
	return shortest[0] - 1
}

func TestFormatOfWhatWasReadIsShortest(t *testing.T) {
	for _, x := range []struct{ s, want string }{
		{"0-31", "all"},
		{"31,0-30", "all"},
		{"16-31,0-15", "all"},
		{"all", "all"},
		{"none", "none"},
		{"5-5", "5"},
		{"7,1-2,0-1", "0-2,7"},
		{"2,1,0", "0-2"},
		{"3-9,5-6,10", "3-10"},
		{"9,8,9,8", "8-9"},
	} {
		m, e := mask.Parse(x.s)
		if s := mask.Format(m); s != x.want || e != api.OK {
			t.Errorf("Format(Parse(%q)) = %q, %d", x.s, s, e)
		}
	}
	for _, m := range sampleMasks() {
		var items []string
		for _, n := range slices.Backward(numbersOf(m)) {
			items = append(items, strconv.Itoa(n))
		}
		if len(items) == 0 {
			continue
		}
		back, _ := mask.Parse(strings.Join(items, ","))
		if s := mask.Format(back); back != m || len(s) != shortestLength(m) {
			t.Fatalf("Format of %#x is %q, but %d bytes suffice", uint64(m), s, shortestLength(m))
		}
	}
}
