package value_test

import (
	"encoding/hex"
	"fmt"
	"math"
	"regexp"
	"strconv"
	"strings"
	"testing"

	"kaudit/api"
	"kaudit/value"
)

var (
	safeForm = regexp.MustCompile(`^[!#-~]*$`)
	nameForm = regexp.MustCompile(`^[a-z][a-z0-9_]{0,15}$`)
)

// everyText returns all texts of these bytes with at most this length.
func everyText(letters string, length int) []string {
	texts := []string{""}
	for begin := 0; length > 0; length-- {
		end := len(texts)
		for _, s := range texts[begin:end] {
			for i := range len(letters) {
				texts = append(texts, s+letters[i:i+1])
			}
		}
		begin = end
	}
	return texts
}

// sampleTexts returns texts that Quote accepts: all bytes and pairs of bytes, texts that look like values, and the longest ones.
func sampleTexts() []string {
	texts := []string{
		"", "a/b", "a b", "/", "init", "x61", "x", "x20", "0", "-5", "(null)", "null", "a=b", "=", `\`, `\"`, `"`, `""`, `"a"`, "'", "\x00", "\n", "\r\n", "\t", "é", "日本", "\xff\xfe", "\xc3",
		"type=SYSCALL msg=audit(0.005:2):", strings.Repeat("ab ", 200),
	}
	for a := range 256 {
		texts = append(texts, string([]byte{byte(a)}))
		for b := range 256 {
			texts = append(texts, string([]byte{byte(a), byte(b)}))
		}
	}
	for _, n := range []int{api.MaxText - 1, api.MaxText} {
		for _, c := range []string{"a", "x", "~", "!", " ", "\"", "\n", "\x00", "\xff"} {
			texts = append(texts, strings.Repeat(c, n), strings.Repeat("a", n-1)+c, c+strings.Repeat("a", n-1))
		}
	}
	return texts
}

// modelQuote writes a text in another way than the program.
func modelQuote(s string) string {
	if safeForm.MatchString(s) {
		return `"` + s + `"`
	}
	return "x" + hex.EncodeToString([]byte(s))
}

// modelUnquote tries the two texts that s may stand for.
func modelUnquote(s string) (string, api.Errno) {
	candidates := []string{strings.TrimSuffix(strings.TrimPrefix(s, `"`), `"`)}
	if b, err := hex.DecodeString(strings.TrimPrefix(s, "x")); err == nil {
		candidates = append(candidates, string(b))
	}
	for _, text := range candidates {
		if len(text) <= 640 && modelQuote(text) == s {
			return text, api.OK
		}
	}
	return "", api.ErrValueForm
}

// modelFormat writes a valid pair in another way than the program.
func modelFormat(p api.Pair) string {
	switch p.Kind {
	case 1:
		return fmt.Sprintf("%s=%d", p.Name, p.Num)
	case 2:
		return fmt.Sprintf("%s=%s", p.Name, modelQuote(p.Text))
	}
	return fmt.Sprintf("%s=(null)", p.Name)
}

// modelParse tries every pair that s may stand for.
func modelParse(s string) (api.Pair, api.Errno) {
	end := max(0, strings.Index(s, "="))
	name, rest := s[:end], strings.TrimPrefix(s[end:], "=")
	if !nameForm.MatchString(name) {
		return api.Pair{}, api.ErrValueForm
	}
	candidates := []api.Pair{{Name: name, Kind: 3}}
	if n, err := strconv.ParseInt(rest, 10, 64); err == nil {
		candidates = append(candidates, api.Pair{Name: name, Kind: 1, Num: int(n)})
	}
	if text, e := modelUnquote(rest); e == api.OK {
		candidates = append(candidates, api.Pair{Name: name, Kind: 2, Text: text})
	}
	for _, p := range candidates {
		if modelFormat(p) == s {
			return p, api.OK
		}
	}
	return api.Pair{}, api.ErrValueForm
}

// P2.1

func TestQuoteWritesSafeTextsBetweenQuotationMarks(t *testing.T) {
	for _, s := range []string{"", "a", "a/b", "x", "x20", "x61", "(null)", "-5", "a=b", `\`, "'", "!", "#", "~", "!~", strings.Repeat("a", 640), strings.Repeat("~", 639)} {
		if q, e := value.Quote(s); q != `"`+s+`"` || e != api.OK {
			t.Errorf("Quote(%q) = %q, %d", s, q, e)
		}
	}
}

func TestQuoteWritesOtherTextsInDigits(t *testing.T) {
	for _, x := range []struct{ s, want string }{
		{"a b", "x612062"},
		{" ", "x20"},
		{`"`, "x22"},
		{`""`, "x2222"},
		{`a"`, "x6122"},
		{"\x00", "x00"},
		{"\x7f\x00\xff", "x7f00ff"},
		{"\x80", "x80"},
		{"\x1f!", "x1f21"},
		{"a\n", "x610a"},
		{"é", "xc3a9"},
		{"\x01\x23\x45\x67\x89\xab\xcd\xef", "x0123456789abcdef"},
		{strings.Repeat(" ", 640), "x" + strings.Repeat("20", 640)},
	} {
		if q, e := value.Quote(x.s); q != x.want || e != api.OK {
			t.Errorf("Quote(%q) = %q, %d, not %q", x.s, q, e, x.want)
		}
	}
}

func TestQuoteOfAllSamples(t *testing.T) {
	for _, s := range sampleTexts() {
		if q, e := value.Quote(s); q != modelQuote(s) || e != api.OK {
			t.Fatalf("Quote(%q) = %q, %d", s, q, e)
		}
	}
}

func TestQuoteRefusesLongTexts(t *testing.T) {
	for _, c := range []string{"a", " ", `"`, "\xff"} {
		for _, n := range []int{641, 642, 1280, 1281, 1 << 20} {
			if q, e := value.Quote(strings.Repeat(c, n)); q != "" || e != api.ErrValueLong {
				t.Errorf("Quote of %d times %q: %q, %d", n, c, q, e)
			}
		}
	}
}

func TestUnquoteReadsWhatQuoteWrites(t *testing.T) {
	for _, x := range []struct{ s, want string }{
		{`""`, ""},
		{`"a/b"`, "a/b"},
		{`"x20"`, "x20"},
		{`"(null)"`, "(null)"},
		{"x612062", "a b"},
		{"x22", `"`},
		{"x2222", `""`},
		{"x0aff", "\n\xff"},
		{"x7f", "\x7f"},
		{`"` + strings.Repeat("a", 640) + `"`, strings.Repeat("a", 640)},
		{"x" + strings.Repeat("00", 640), strings.Repeat("\x00", 640)},
	} {
		if s, e := value.Unquote(x.s); s != x.want || e != api.OK {
			t.Errorf("Unquote(%q) = %q, %d", x.s, s, e)
		}
	}
}

func TestUnquoteRefusesOtherTexts(t *testing.T) {
	for _, s := range []string{
		"", `"`, `"""`, `""""`, `"a`, `a"`, "a", " ", `"a b"`, `"a"b"`, `"a""`, `""a"`, "\"\n\"", "\"\x7f\"", "\"\x80\"", "\"\x00\"", `"é"`,
		` "a"`, `"a" `, "\"a\"\n", `'a'`, `\"a\"`, `"x20"x`, `"a"x`,
		"x", "x2", "x6", "x200", "x2 0", "x 20", "x20 ", " x20", "x20\n", "x0A", "x2G", "xg0", "x0g", "x-1", "x+1", "x/0", "x0/", "x:0", "x0:", "x`0", "x0`", "x\x000", "x20\"", "\"x20", "X20", "0x20", "x0x20", "20", "xx20",
		"x61", "x612f62", "x21", "x7e", "x2321", "x5c", "x283b",
		"(null)", "5", "-5",
	} {
		if text, e := value.Unquote(s); text != "" || e != api.ErrValueForm {
			t.Errorf("Unquote(%q) = %q, %d", s, text, e)
		}
	}
}

func TestUnquoteRefusesLongTexts(t *testing.T) {
	for _, n := range []int{641, 642, 1279, 1280, 1281, 1 << 20} {
		for _, s := range []string{
			`"` + strings.Repeat("a", n) + `"`,
			"x" + strings.Repeat("20", n),
			"x" + strings.Repeat("20", n) + "2",
			strings.Repeat(`"`, n),
			strings.Repeat("x", n),
			"x" + strings.Repeat("61", n),
		} {
			if text, e := value.Unquote(s); text != "" || e != api.ErrValueForm {
				t.Errorf("Unquote of %d bytes (%q): %d bytes, %d", len(s), s[:3], len(text), e)
			}
		}
	}
}

func TestUnquoteOfAllShortTexts(t *testing.T) {
	for _, s := range everyText("x\"06aAfg \n\xff", 5) {
		want, wantErrno := modelUnquote(s)
		if text, e := value.Unquote(s); text != want || e != wantErrno {
			t.Fatalf("Unquote(%q) = %q, %d, not %q, %d", s, text, e, want, wantErrno)
		}
	}
}

func TestUnquoteOfAllDigits(t *testing.T) {
	for a := range 256 {
		for b := range 256 {
			s := "x" + string([]byte{byte(a), byte(b)})
			want, wantErrno := modelUnquote(s)
			if text, e := value.Unquote(s); text != want || e != wantErrno {
				t.Fatalf("Unquote(%q) = %q, %d, not %q, %d", s, text, e, want, wantErrno)
			}
		}
	}
}

// P2.2

func TestCheckAcceptsPairs(t *testing.T) {
	for _, p := range []api.Pair{
		{Name: "a", Kind: api.KindNum},
		{Name: "z", Kind: api.KindNum, Num: -1},
		{Name: "pid", Kind: api.KindNum, Num: math.MaxInt},
		{Name: "a0", Kind: api.KindNum, Num: math.MinInt},
		{Name: "a", Kind: api.KindText},
		{Name: "obj_uid2", Kind: api.KindText, Text: "x y\n\xff"},
		{Name: "a_", Kind: api.KindText, Text: strings.Repeat("a", 640)},
		{Name: "a__9", Kind: api.KindText, Text: strings.Repeat("\x00", 640)},
		{Name: "key", Kind: api.KindNull},
		{Name: "abcdefghijklmnop", Kind: api.KindNull},
		{Name: "a_23456789012345", Kind: api.KindNull},
	} {
		if e := value.Check(p); e != api.OK {
			t.Errorf("Check(%+v) = %d", p, e)
		}
	}
}

func TestCheckOfNames(t *testing.T) {
	names := []string{"", "_", "_a", "0", "0a", "a b", "a=", "a-", "a.b", "aB", "A", "aé", "ａ", " a", "a ", "a\n", "\na", "abcdefghijklmnopq", "a\x00", strings.Repeat("a", 1<<20), strings.Repeat("é", 8)}
	for c := range 256 {
		names = append(names, string([]byte{byte(c)}), string([]byte{'a', byte(c)}), string([]byte{byte(c), 'a'}), string([]byte{'a', byte(c), 'a'}))
	}
	for n := range 20 {
		names = append(names, strings.Repeat("a", n), "a"+strings.Repeat("9", n), "a"+strings.Repeat("_", n))
	}
	for _, name := range names {
		want := api.OK
		if !nameForm.MatchString(name) {
			want = api.ErrValueName
		}
		for _, p := range []api.Pair{{Name: name, Kind: api.KindNum, Num: 5}, {Name: name, Kind: api.KindText, Text: "a"}, {Name: name, Kind: api.KindNull}} {
			if e := value.Check(p); e != want {
				t.Errorf("Check(%+v) = %d, not %d", p, e, want)
			}
		}
	}
}

func TestCheckOfKinds(t *testing.T) {
	for _, kind := range []int{math.MinInt, -3, -2, -1, 0, 4, 5, 1 << 32, 1<<32 + 1, math.MaxInt} {
		for _, p := range []api.Pair{{Name: "a", Kind: kind}, {Name: "a", Kind: kind, Num: 1}, {Name: "a", Kind: kind, Text: "a"}} {
			if e := value.Check(p); e != api.ErrValueKind {
				t.Errorf("Check(%+v) = %d", p, e)
			}
		}
	}
	for _, p := range []api.Pair{
		{Name: "a", Kind: api.KindText, Num: 1},
		{Name: "a", Kind: api.KindText, Num: -1, Text: "a"},
		{Name: "a", Kind: api.KindText, Num: math.MinInt},
		{Name: "a", Kind: api.KindNull, Num: 1},
		{Name: "a", Kind: api.KindNull, Num: math.MaxInt},
		{Name: "a", Kind: api.KindNum, Text: "5"},
		{Name: "a", Kind: api.KindNum, Num: 5, Text: "\x00"},
		{Name: "a", Kind: api.KindNull, Text: "(null)"},
		{Name: "a", Kind: api.KindNull, Num: 1, Text: "a"},
	} {
		if e := value.Check(p); e != api.ErrValueKind {
			t.Errorf("Check(%+v) = %d", p, e)
		}
	}
}

func TestCheckOfLongTexts(t *testing.T) {
	for _, c := range []string{"a", " ", "\xff"} {
		for _, n := range []int{641, 642, 1 << 20} {
			if e := value.Check(api.Pair{Name: "a", Kind: api.KindText, Text: strings.Repeat(c, n)}); e != api.ErrValueLong {
				t.Errorf("%d times %q: %d", n, c, e)
			}
		}
	}
}

// wrongPairs returns, for each error, pairs to which later errors apply, too.
func wrongPairs() map[api.Errno][]api.Pair {
	long := strings.Repeat("a", 641)
	return map[api.Errno][]api.Pair{
		api.ErrValueName: {
			{},
			{Kind: api.KindNum, Text: long},
			{Name: "A", Kind: 9},
			{Name: "a=", Kind: api.KindText, Text: long},
			{Name: "_", Kind: api.KindText, Num: 1, Text: long},
			{Name: "abcdefghijklmnopq", Kind: api.KindNull, Text: long},
		},
		api.ErrValueKind: {
			{Name: "a"},
			{Name: "a", Kind: 4, Num: 1, Text: long},
			{Name: "a", Kind: api.KindNum, Text: long},
			{Name: "a", Kind: api.KindNull, Text: long},
			{Name: "a", Kind: api.KindText, Num: 1, Text: long},
		},
		api.ErrValueLong: {
			{Name: "a", Kind: api.KindText, Text: long},
			{Name: "abcdefghijklmnop", Kind: api.KindText, Text: strings.Repeat("\n", 641)},
		},
	}
}

func TestCheckNamesTheFirstError(t *testing.T) {
	for want, pairs := range wrongPairs() {
		for _, p := range pairs {
			if e := value.Check(p); e != want {
				t.Errorf("Check(%+v) = %d, not %d", p, e, want)
			}
		}
	}
}

// P2.3

func TestFormatReturnsTheErrorOfCheck(t *testing.T) {
	for want, pairs := range wrongPairs() {
		for _, p := range pairs {
			if s, e := value.Format(p); s != "" || e != want {
				t.Errorf("Format(%+v) = %q, %d, not %d", p, s, e, want)
			}
		}
	}
}

func TestPairsAndTheirTexts(t *testing.T) {
	for _, x := range []struct {
		p api.Pair
		s string
	}{
		{api.Pair{Name: "n", Kind: api.KindNum, Num: -5}, "n=-5"},
		{api.Pair{Name: "n", Kind: api.KindNum}, "n=0"},
		{api.Pair{Name: "n", Kind: api.KindNum, Num: 10}, "n=10"},
		{api.Pair{Name: "auid", Kind: api.KindNum, Num: 4294967295}, "auid=4294967295"},
		{api.Pair{Name: "n", Kind: api.KindNum, Num: math.MaxInt64}, "n=9223372036854775807"},
		{api.Pair{Name: "n", Kind: api.KindNum, Num: math.MinInt64}, "n=-9223372036854775808"},
		{api.Pair{Name: "call", Kind: api.KindText, Text: "mkdir"}, `call="mkdir"`},
		{api.Pair{Name: "n", Kind: api.KindText}, `n=""`},
		{api.Pair{Name: "n", Kind: api.KindText, Text: "5"}, `n="5"`},
		{api.Pair{Name: "n", Kind: api.KindText, Text: "x20"}, `n="x20"`},
		{api.Pair{Name: "n", Kind: api.KindText, Text: "a=b"}, `n="a=b"`},
		{api.Pair{Name: "n", Kind: api.KindText, Text: "(null)"}, `n="(null)"`},
		{api.Pair{Name: "n", Kind: api.KindText, Text: "a=b c"}, "n=x613d622063"},
		{api.Pair{Name: "x", Kind: api.KindText, Text: `"`}, "x=x22"},
		{api.Pair{Name: "key", Kind: api.KindNull}, "key=(null)"},
		{api.Pair{Name: "abcdefghijklmnop", Kind: api.KindNull}, "abcdefghijklmnop=(null)"},
		{api.Pair{Name: "a_0", Kind: api.KindText, Text: strings.Repeat("\n", 640)}, "a_0=x" + strings.Repeat("0a", 640)},
	} {
		if s, e := value.Format(x.p); s != x.s || e != api.OK {
			t.Errorf("Format(%+v) = %q, %d", x.p, s, e)
		}
		if p, e := value.Parse(x.s); p != x.p || e != api.OK {
			t.Errorf("Parse(%q) = %+v, %d", x.s, p, e)
		}
	}
}

func TestParseRefusesOtherTexts(t *testing.T) {
	for _, s := range []string{
		"", "n", "=", "=5", "n=", "n:5", "n 5", "n==5", "n=5=", "n=5=5", " n=5", "n =5", "n= 5", "n=5 ", "n=5\n", "\nn=5", "n=5 m=5", "n=5\x00",
		"N=5", "_n=5", "5=5", "n-=5", "nN=5", "é=5", "abcdefghijklmnopq=5", "n\n=5",
		"n=05", "n=00", "n=-0", "n=-05", "n=+5", "n=+0", "n=--5", "n=-", "n=+", "n=x", "n=5x", "n=5.", "n=5.0", "n=1e3", "n=0x5", "n=1_000", "n=٣", "n=NaN",
		"n=9223372036854775808", "n=-9223372036854775809", "n=18446744073709551615", "n=18446744073709551617", "n=99999999999999999999", "n=-99999999999999999999",
		"n=null", "n=()", "n=(null", "n=null)", "n=(null) ", "n=(null)(null)", "n=(NULL)", "n=(nil)", "n=((null))", "n=x286e756c6c29",
		`n="`, `n="x20"x`, `n="a b"`, `n="a`, `n=a"`, `n=a`, `n='a'`, `n="a"b"`, `n="a" `, `n=""""`, `n=="a"`, "n=x61", "n=x6", "n=x0A", "n=X20", "n=x2 0",
		"n=x", "n=" + strings.Repeat("5", 1<<20), strings.Repeat("n", 1<<20) + "=5", strings.Repeat("=", 1<<20),
		`n="` + strings.Repeat("a", 641) + `"`, "n=x" + strings.Repeat("20", 641),
	} {
		if p, e := value.Parse(s); p != (api.Pair{}) || e != api.ErrValueForm {
			t.Errorf("Parse(%.40q) = %+v, %d", s, p, e)
		}
	}
}

func TestParseOfAllShortTexts(t *testing.T) {
	agree := func(s string) {
		want, wantErrno := modelParse(s)
		if p, e := value.Parse(s); p != want || e != wantErrno {
			t.Fatalf("Parse(%q) = %+v, %d, not %+v, %d", s, p, e, want, wantErrno)
		}
	}
	for _, s := range everyText("a=-+05\"x2_", 4) {
		agree(s)
		agree("a=" + s)
		agree("a=\"" + s + "\"")
	}
}

func TestParseOfChangedTexts(t *testing.T) {
	for _, s := range []string{"n=-5", "n=10", `n="a/b"`, "n=x612062", "n=(null)", "obj_uid2=0"} {
		for i := range len(s) + 1 {
			for c := range 256 {
				changed := []string{s[:i] + string([]byte{byte(c)}) + s[i:]}
				if i < len(s) {
					changed = append(changed, s[:i]+s[i+1:], s[:i]+string([]byte{byte(c)})+s[i+1:])
				}
				for _, text := range changed {
					want, wantErrno := modelParse(text)
					if p, e := value.Parse(text); p != want || e != wantErrno {
						t.Fatalf("Parse(%q) = %+v, %d, not %+v, %d", text, p, e, want, wantErrno)
					}
				}
			}
		}
	}
}

// P2.4

// samplePairs returns valid pairs.
func samplePairs() []api.Pair {
	var pairs []api.Pair
	for _, name := range []string{"a", "x", "a0", "a_", "abcdefghijklmnop"} {
		pairs = append(pairs, api.Pair{Name: name, Kind: api.KindNull})
		for n := range 64 {
			for _, num := range []int{n, -n, 1 << n, 1<<n - 1, 1<<n + 1, -1 << n} {
				pairs = append(pairs, api.Pair{Name: name, Kind: api.KindNum, Num: num})
			}
		}
	}
	for _, text := range sampleTexts() {
		pairs = append(pairs, api.Pair{Name: "a", Kind: api.KindText, Text: text}, api.Pair{Name: "b", Kind: api.KindText, Text: text})
	}
	return pairs
}

func TestTextsAreReadBack(t *testing.T) {
	for _, s := range sampleTexts() {
		q, e := value.Quote(s)
		if back, e2 := value.Unquote(q); back != s || e != api.OK || e2 != api.OK {
			t.Fatalf("Unquote(Quote(%q)) = Unquote(%q) = %q, %d", s, q, back, e2)
		}
	}
}

func TestPairsAreReadBackAndDiffer(t *testing.T) {
	pairsOf := map[string]api.Pair{}
	for _, p := range samplePairs() {
		s, e := value.Format(p)
		if back, e2 := value.Parse(s); back != p || e != api.OK || e2 != api.OK {
			t.Fatalf("Parse(Format(%+v)) = Parse(%q) = %+v, %d, %d", p, s, back, e, e2)
		}
		if s != modelFormat(p) {
			t.Fatalf("Format(%+v) = %q", p, s)
		}
		if other, found := pairsOf[s]; found && other != p {
			t.Fatalf("%+v and %+v have the text %q", p, other, s)
		}
		pairsOf[s] = p
		if strings.ContainsAny(s, " \n") {
			t.Fatalf("the text %q of %+v has a space or a line feed", s, p)
		}
	}
}
