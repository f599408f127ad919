package record_test

import (
	"fmt"
	"math"
	"reflect"
	"regexp"
	"slices"
	"strconv"
	"strings"
	"testing"

	"kaudit/api"
	"kaudit/record"
	"kaudit/value"
)

// modelType is a row of the chapter's table.
type modelType struct {
	name   string
	number int
	single bool
}

func modelTypes() []modelType {
	return []modelType{
		{"USER", 1005, true},
		{"DAEMON", 1200, true},
		{"SYSCALL", 1300, false},
		{"PATH", 1302, false},
		{"CONFIG", 1305, true},
		{"SOCKADDR", 1306, false},
		{"CWD", 1307, false},
		{"EXECVE", 1309, false},
		{"EOE", 1320, false},
		{"LOSS", 1331, true},
	}
}

// lineForm is the form of a line, apart from its pairs and its ranges.
var lineForm = regexp.MustCompile(`^type=([A-Z]+) msg=audit\((0|[1-9][0-9]{0,11})\.([0-9]{3}):(0|[1-9][0-9]{0,11})\):((?: [^ ]+)*)$`)

func num(name string, n int) api.Pair  { return api.Pair{Name: name, Kind: 1, Num: n} }
func text(name, s string) api.Pair     { return api.Pair{Name: name, Kind: 2, Text: s} }
func null(name string) api.Pair        { return api.Pair{Name: name, Kind: 3} }
func pairs(l ...api.Pair) []api.Pair   { return l }
func end(pairs ...api.Pair) api.Record { return api.Record{Type: 1320, Pairs: pairs} }

// numbered returns n pairs with different names.
func numbered(n int) []api.Pair {
	var l []api.Pair
	for i := range n {
		l = append(l, num("n"+strconv.Itoa(i), -i))
	}
	return l
}

// same compares two records; nil and empty lists are equivalent.
func same(a, b api.Record) bool {
	return a.Type == b.Type && a.Time == b.Time && a.Serial == b.Serial && slices.Equal(a.Pairs, b.Pairs)
}

// modelParse reads a line in another way than the program.
func modelParse(line string) (api.Record, api.Errno) {
	m := lineForm.FindStringSubmatch(line)
	if m == nil {
		return api.Record{}, api.ErrRecordForm
	}
	var r api.Record
	for _, x := range modelTypes() {
		if x.name == m[1] {
			r.Type = x.number
		}
	}
	r.Time, _ = strconv.Atoi(m[2] + m[3])
	r.Serial, _ = strconv.Atoi(m[4])
	names := map[string]bool{}
	for _, s := range strings.Split(m[5], " ")[1:] {
		p, e := value.Parse(s)
		if e != api.OK {
			return api.Record{}, api.ErrRecordForm
		}
		names[p.Name] = true
		r.Pairs = append(r.Pairs, p)
	}
	if r.Type == 0 || r.Time > 1<<40 || r.Serial > 1<<30 || len(r.Pairs) > 24 || len(names) != len(r.Pairs) {
		return api.Record{}, api.ErrRecordForm
	}
	return r, api.OK
}

// modelFormat writes a valid record in another way than the program.
func modelFormat(r api.Record) string {
	i := slices.IndexFunc(modelTypes(), func(x modelType) bool { return x.number == r.Type })
	line := fmt.Sprintf("type=%s msg=audit(%d.%03d:%d):", modelTypes()[i].name, r.Time/1000, r.Time-r.Time/1000*1000, r.Serial)
	for _, p := range r.Pairs {
		s, _ := value.Format(p)
		line += " " + s
	}
	return line
}

// samples returns valid records with different lines.
func samples() []api.Record {
	lists := [][]api.Pair{
		nil,
		{text("cwd", "/tmp")},
		{text("cwd", "/tmp ")},
		{text("cwd", "")},
		{num("cwd", 0)},
		{null("cwd")},
		{text("cwd", "(null)")},
		{num("a", math.MinInt), num("b", math.MaxInt)},
		{num("b", math.MaxInt), num("a", math.MinInt)},
		{null("a"), null("a_"), null("aa"), null("a0")},
		{text("a", "b=1 c=2")},
		{text("a", "b=1"), num("c", 2)},
		{text("a", "\n type=EOE msg=audit(0.000:0):"), text("msg", "audit(1.000:1):")},
		{text("type", "EOE"), num("msg", 1)},
		{text("abcdefghijklmnop", strings.Repeat("\xff", 640)), text("abcdefghijklmno", strings.Repeat("a", 640))},
		numbered(1),
		numbered(23),
		numbered(24),
	}
	var l []api.Record
	for _, x := range modelTypes() {
		for _, time := range []int{0, 1, 9, 10, 99, 100, 999, 1000, 1001, 1010, 12345, 999999, 1000000, 1<<40 - 1, 1 << 40} {
			for _, serial := range []int{0, 1, 7, 10, 1<<30 - 1, 1 << 30} {
				l = append(l, api.Record{Type: x.number, Time: time, Serial: serial, Pairs: lists[len(l)%len(lists)]})
			}
		}
		for _, pairs := range lists {
			l = append(l, api.Record{Type: x.number, Time: 5, Serial: 2, Pairs: pairs})
		}
	}
	for millis := range 3000 {
		l = append(l, api.Record{Type: 1300, Time: 2000 + millis, Serial: 3})
	}
	return l
}

// checkLine compares what the program reads in a line with the model.
func checkLine(t *testing.T, line string) {
	t.Helper()
	want, wantErrno := modelParse(line)
	if r, e := record.Parse(line); !same(r, want) || e != wantErrno {
		t.Fatalf("Parse(%q) = %+v, %d, not %+v, %d", line, r, e, want, wantErrno)
	}
}

// P3.1

func TestTypesAndTheirNames(t *testing.T) {
	var numbers []int
	for _, x := range modelTypes() {
		numbers = append(numbers, x.number)
		if name := record.Name(x.number); name != x.name {
			t.Errorf("Name(%d) = %q, not %q", x.number, name, x.name)
		}
		if n := record.Number(x.name); n != x.number {
			t.Errorf("Number(%q) = %d, not %d", x.name, n, x.number)
		}
		if single := record.Single(x.number); single != x.single {
			t.Errorf("Single(%d) = %t", x.number, single)
		}
	}
	if l := record.Types(); !slices.Equal(l, numbers) {
		t.Errorf("Types() = %v, not %v", l, numbers)
	}
}

func TestNumbersThatAreNoTypes(t *testing.T) {
	numbers := []int{math.MinInt, math.MinInt + 1, -1320, math.MaxInt - 1, math.MaxInt, 1<<32 + 1320, 1320 - 1<<32, 1<<16 + 1005}
	for n := -10; n < 5000; n++ {
		if !slices.Contains(record.Types(), n) {
			numbers = append(numbers, n)
		}
	}
	for _, n := range numbers {
		if name := record.Name(n); name != "" {
			t.Errorf("Name(%d) = %q", n, name)
		}
		if record.Single(n) {
			t.Errorf("Single(%d)", n)
		}
	}
}

func TestTextsThatAreNoNames(t *testing.T) {
	names := []string{"", " ", "0", "1300", "(null)", "END", "Eoe", "\x00", strings.Repeat("EOE", 1<<20)}
	for _, x := range modelTypes() {
		names = append(names, strings.ToLower(x.name), x.name+" ", " "+x.name, x.name+"\x00", x.name+x.name, x.name[1:], x.name[:len(x.name)-1], "type="+x.name, x.name+"S")
	}
	for _, name := range names {
		if n := record.Number(name); n != 0 {
			t.Errorf("Number(%.40q) = %d", name, n)
		}
	}
}

func TestTypesAreNewMemory(t *testing.T) {
	l := record.Types()
	clear(l[:cap(l)])
	if other := record.Types(); other[0] != 1005 || other[9] != 1331 {
		t.Errorf("Types() = %v after a change of its result", other)
	}
	if record.Name(1005) != "USER" || record.Number("LOSS") != 1331 {
		t.Error("a change of the result of Types changes names")
	}
}

// P3.2

func TestCheckAcceptsRecords(t *testing.T) {
	for _, r := range samples() {
		if e := record.Check(r); e != api.OK {
			t.Fatalf("Check(%+v) = %d", r, e)
		}
	}
	empty := api.Record{Type: 1005, Pairs: []api.Pair{}}
	if e := record.Check(empty); e != api.OK {
		t.Errorf("Check with an empty list: %d", e)
	}
}

func TestCheckOfTypes(t *testing.T) {
	types := []int{math.MinInt, -1, -1320, math.MaxInt, 1<<32 + 1320}
	for n := range 3000 {
		types = append(types, n)
	}
	for _, n := range types {
		want := api.ErrRecordType
		if slices.Contains(record.Types(), n) {
			want = api.OK
		}
		if e := record.Check(api.Record{Type: n, Time: 1, Serial: 1, Pairs: numbered(3)}); e != want {
			t.Errorf("Check of the type %d: %d", n, e)
		}
	}
}

func TestCheckOfTimesAndSerialNumbers(t *testing.T) {
	for _, time := range []int{0, 1, 1<<40 - 1, 1 << 40} {
		for _, serial := range []int{0, 1, 1<<30 - 1, 1 << 30} {
			if e := record.Check(api.Record{Type: 1320, Time: time, Serial: serial}); e != api.OK {
				t.Errorf("Check of the time %d and the serial number %d: %d", time, serial, e)
			}
		}
	}
	for _, n := range []int{math.MinInt, math.MinInt + 1, -1 << 40, -1, 1<<40 + 1, 1 << 41, math.MaxInt - 1, math.MaxInt} {
		if e := record.Check(api.Record{Type: 1320, Time: n}); e != api.ErrRecordStamp {
			t.Errorf("Check of the time %d: %d", n, e)
		}
	}
	for _, n := range []int{math.MinInt, math.MinInt + 1, -1 << 30, -1, 1<<30 + 1, 1 << 31, 1 << 32, 1 << 40, math.MaxInt - 1, math.MaxInt} {
		if e := record.Check(api.Record{Type: 1320, Serial: n}); e != api.ErrRecordStamp {
			t.Errorf("Check of the serial number %d: %d", n, e)
		}
	}
}

func TestCheckOfTheNumberOfPairs(t *testing.T) {
	for n := range 100 {
		want := api.OK
		if n > 24 {
			want = api.ErrRecordPairs
		}
		if e := record.Check(end(numbered(n)...)); e != want {
			t.Errorf("Check of %d pairs: %d", n, e)
		}
	}
	if e := record.Check(end(make([]api.Pair, 1<<20)...)); e != api.ErrRecordPairs {
		t.Errorf("Check of many pairs: %d", e)
	}
}

func TestCheckOfNamesThatOccurTwice(t *testing.T) {
	for i := range 24 {
		for j := range i {
			l := numbered(24)
			l[i] = text(l[j].Name, "x")
			if e := record.Check(end(l...)); e != api.ErrRecordName {
				t.Errorf("Check with the name %d at %d, too: %d", j, i, e)
			}
		}
	}
	for _, l := range [][]api.Pair{
		{null("a"), null("a")},
		{num("a", 1), num("a", 1)},
		{num("a", 1), text("a", "1")},
		{null("abcdefghijklmnop"), null("abcdefghijklmnop")},
	} {
		if e := record.Check(end(l...)); e != api.ErrRecordName {
			t.Errorf("Check of %+v: %d", l, e)
		}
	}
	for _, l := range [][]api.Pair{{null("a"), null("b")}, {null("a"), null("aa")}, {num("a_", 1), num("a", 1)}, {null("abcdefghijklmnop"), null("abcdefghijklmno")}} {
		if e := record.Check(end(l...)); e != api.OK {
			t.Errorf("Check of %+v: %d", l, e)
		}
	}
}

// wrongRecord is a record with the first of its errors; later ones apply, too.
type wrongRecord struct {
	r api.Record
	e api.Errno
}

func wrongRecords() []wrongRecord {
	long := strings.Repeat("a", 641)
	wrongPair := pairs(num("B", 1))
	many := append(numbered(24), num("B", 1))
	return []wrongRecord{
		{api.Record{}, api.ErrRecordType},
		{api.Record{Type: 1321, Time: -1, Serial: -1, Pairs: many}, api.ErrRecordType},
		{api.Record{Type: -1320, Pairs: wrongPair}, api.ErrRecordType},
		{api.Record{Type: 1320, Time: -1, Pairs: many}, api.ErrRecordStamp},
		{api.Record{Type: 1320, Serial: -1, Pairs: wrongPair}, api.ErrRecordStamp},
		{api.Record{Type: 1320, Time: 1<<40 + 1, Serial: 1<<30 + 1, Pairs: many}, api.ErrRecordStamp},
		{end(many...), api.ErrRecordPairs},
		{end(append(wrongPair, numbered(24)...)...), api.ErrRecordPairs},
		{end(append(numbered(24), numbered(24)...)...), api.ErrRecordPairs},
		{end(make([]api.Pair, 24)...), api.ErrValueName},
		{end(num("a", 1), num("B", 1), num("a", 1)), api.ErrValueName},
		{end(api.Pair{Name: "B", Kind: 9, Text: long}), api.ErrValueName},
		{end(num("a", 1), num("", 1), num("", 1)), api.ErrValueName},
		{end(num("a", 1), api.Pair{Name: "b"}, num("a", 1)), api.ErrValueKind},
		{end(num("a", 1), api.Pair{Name: "a"}), api.ErrValueKind},
		{end(api.Pair{Name: "a", Kind: 2, Num: 1, Text: long}, num("B", 1)), api.ErrValueKind},
		{end(text("a", long), num("B", 1)), api.ErrValueLong},
		{end(text("a", ""), text("a", long), num("B", 1)), api.ErrValueLong},
		{end(num("a", 1), num("a", 1), num("B", 1)), api.ErrRecordName},
		{end(num("a", 1), null("b"), text("a", ""), api.Pair{}), api.ErrRecordName},
	}
}

func TestCheckNamesTheFirstError(t *testing.T) {
	for _, x := range wrongRecords() {
		if e := record.Check(x.r); e != x.e {
			t.Errorf("Check(%+v) = %d, not %d", x.r, e, x.e)
		}
	}
}

// P3.3

func TestFormatReturnsTheErrorOfCheck(t *testing.T) {
	for _, x := range wrongRecords() {
		if s, e := record.Format(x.r); s != "" || e != x.e {
			t.Errorf("Format(%+v) = %q, %d, not %d", x.r, s, e, x.e)
		}
	}
}

func TestRecordsAndTheirLines(t *testing.T) {
	for _, x := range []struct {
		r    api.Record
		line string
	}{
		{api.Record{Type: 1307, Time: 12345, Serial: 7, Pairs: pairs(text("cwd", "/tmp"))}, `type=CWD msg=audit(12.345:7): cwd="/tmp"`},
		{api.Record{Type: 1307, Time: 12345, Serial: 7}, `type=CWD msg=audit(12.345:7):`},
		{api.Record{Type: 1320}, `type=EOE msg=audit(0.000:0):`},
		{api.Record{Type: 1331, Time: 5, Serial: 4, Pairs: pairs(num("first", 3), num("last", 3), num("rated", 0), num("full", 1), num("stalled", 0))}, `type=LOSS msg=audit(0.005:4): first=3 last=3 rated=0 full=1 stalled=0`},
		{api.Record{Type: 1302, Time: 5, Serial: 2, Pairs: pairs(num("item", 0), text("name", "/a"), num("mode", 493), text("kind", "dir"))}, `type=PATH msg=audit(0.005:2): item=0 name="/a" mode=493 kind="dir"`},
		{api.Record{Type: 1300, Time: 1050, Serial: 10, Pairs: pairs(num("exit", -4), null("key"), text("comm", "a b"))}, `type=SYSCALL msg=audit(1.050:10): exit=-4 key=(null) comm=x612062`},
		{api.Record{Type: 1005, Time: 999, Serial: 1}, `type=USER msg=audit(0.999:1):`},
		{api.Record{Type: 1200, Time: 1000, Serial: 1}, `type=DAEMON msg=audit(1.000:1):`},
		{api.Record{Type: 1305, Time: 1001, Serial: 1}, `type=CONFIG msg=audit(1.001:1):`},
		{api.Record{Type: 1306, Time: 10010, Serial: 1}, `type=SOCKADDR msg=audit(10.010:1):`},
		{api.Record{Type: 1309, Time: 1 << 40, Serial: 1 << 30}, `type=EXECVE msg=audit(1099511627.776:1073741824):`},
		{api.Record{Type: 1307, Pairs: pairs(text("a", "\n"), text("b", " "), text("c", ""))}, `type=CWD msg=audit(0.000:0): a=x0a b=x20 c=""`},
	} {
		if s, e := record.Format(x.r); s != x.line || e != api.OK {
			t.Errorf("Format(%+v) = %q, %d", x.r, s, e)
		}
		if r, e := record.Parse(x.line); !same(r, x.r) || e != api.OK {
			t.Errorf("Parse(%q) = %+v, %d", x.line, r, e)
		}
	}
}

func TestFormatOfAllSamples(t *testing.T) {
	for _, r := range samples() {
		if s, e := record.Format(r); s != modelFormat(r) || e != api.OK {
			t.Fatalf("Format(%+v) = %q, %d", r, s, e)
		}
	}
}

func TestTheLongestLinesAreRead(t *testing.T) {
	for _, x := range modelTypes() {
		r := api.Record{Type: x.number, Time: 1 << 40, Serial: 1 << 30}
		for i := range 24 {
			r.Pairs = append(r.Pairs, text(fmt.Sprintf("abcdefghijklmn%02d", i), strings.Repeat("\n", 640)))
		}
		s, e := record.Format(r)
		if e != api.OK || len(s) > 31240 || len(s) != len(modelFormat(r)) || strings.Contains(s, "\n") {
			t.Errorf("%s: a line of %d bytes, %d", x.name, len(s), e)
		}
		if back, e := record.Parse(s); !same(back, r) || e != api.OK {
			t.Errorf("%s: %d", x.name, e)
		}
	}
}

func TestParseRefusesOtherHeads(t *testing.T) {
	for _, s := range []string{
		"", " ", "\n", "type=", "type=EOE", "type=EOE ", "type=EOE msg=", "type=EOE msg=audit(", "type=EOE msg=audit(0", "type=EOE msg=audit(0.000", "type=EOE msg=audit(0.000:0", "type=EOE msg=audit(0.000:0)",
		"msg=audit(0.000:0):", " msg=audit(0.000:0):", "EOE msg=audit(0.000:0):", "type= msg=audit(0.000:0):", "type=eoe msg=audit(0.000:0):", "type=EOF msg=audit(0.000:0):", "type=1320 msg=audit(0.000:0):", `type="EOE" msg=audit(0.000:0):`,
		"TYPE=EOE msg=audit(0.000:0):", " type=EOE msg=audit(0.000:0):", "type=type=EOE msg=audit(0.000:0):", "type=EOE  msg=audit(0.000:0):", "type= EOE msg=audit(0.000:0):", "type=EOE\tmsg=audit(0.000:0):", "type=EOEmsg=audit(0.000:0):",
		"type=EOE msg=AUDIT(0.000:0):", "type=EOE msg= audit(0.000:0):", "type=EOE msg=audit (0.000:0):", "type=EOE msg=(0.000:0):", "type=EOE msg=audit0.000:0:", "type=EOE msg=audit(0.000:0) :", "type=EOE msg=audit[0.000:0]:", "type=EOE node=a msg=audit(0.000:0):",
		"type=EOE msg=audit(.000:0):", "type=EOE msg=audit(0:0):", "type=EOE msg=audit(0.:0):", "type=EOE msg=audit(0.0:0):", "type=EOE msg=audit(0.00:0):", "type=EOE msg=audit(0.0000:0):", "type=EOE msg=audit(0,000:0):", "type=EOE msg=audit(0.1000:0):",
		"type=EOE msg=audit(00.000:0):", "type=EOE msg=audit(01.000:0):", "type=EOE msg=audit(-0.000:0):", "type=EOE msg=audit(-1.000:0):", "type=EOE msg=audit(+1.000:0):", "type=EOE msg=audit( 1.000:0):", "type=EOE msg=audit(1 .000:0):", "type=EOE msg=audit(a.000:0):", "type=EOE msg=audit(0x1.000:0):",
		"type=EOE msg=audit(1.-00:0):", "type=EOE msg=audit(1.+00:0):", "type=EOE msg=audit(1.-01:0):", "type=EOE msg=audit(1.-001:0):", "type=EOE msg=audit(1.+001:0):", "type=EOE msg=audit(1. 01:0):", "type=EOE msg=audit(1.1e2:0):", "type=EOE msg=audit(1.00a:0):", "type=EOE msg=audit(1.0.0:0):", "type=EOE msg=audit(1.1_0:0):",
		"type=EOE msg=audit(0.000:):", "type=EOE msg=audit(0.0000):", "type=EOE msg=audit(0.000:00):", "type=EOE msg=audit(0.000:01):", "type=EOE msg=audit(0.000:-0):", "type=EOE msg=audit(0.000:-1):", "type=EOE msg=audit(0.000:+1):", "type=EOE msg=audit(0.000: 1):", "type=EOE msg=audit(0.000:1 ):", "type=EOE msg=audit(0.000:1.0):", "type=EOE msg=audit(0.000:1:1):", "type=EOE msg=audit(0.000:x):",
		"type=EOE msg=audit(1099511627.777:0):", "type=EOE msg=audit(1099511628.000:0):", "type=EOE msg=audit(9223372036854775.807:0):", "type=EOE msg=audit(9223372036854775.808:0):", "type=EOE msg=audit(18446744073709551.616:0):", "type=EOE msg=audit(18446744073709552.000:0):", "type=EOE msg=audit(18446744073709551616.000:0):", "type=EOE msg=audit(99999999999999999999.000:0):", "type=EOE msg=audit(-18446744073709551.615:0):",
		"type=EOE msg=audit(0.18446744073709551616:0):", "type=EOE msg=audit(0.000:1073741825):", "type=EOE msg=audit(0.000:4294967296):", "type=EOE msg=audit(0.000:18446744073709551616):", "type=EOE msg=audit(0.000:99999999999999999999):",
	} {
		if r, e := record.Parse(s); !reflect.DeepEqual(r, api.Record{}) || e != api.ErrRecordForm {
			t.Errorf("Parse(%q) = %+v, %d", s, r, e)
		}
	}
}

func TestParseRefusesOtherPairs(t *testing.T) {
	const head = "type=EOE msg=audit(0.000:0):"
	for _, s := range []string{
		" ", "  ", "\n", " \n", "\x00", "a=1", " a=1 ", " a=1\n", "  a=1", " a=1  b=1", "\ta=1", "\na=1", " a=1\tb=1", " a=1\nb=1", " a=1,b=1", " a=1b=1", "\n" + head,
		" a", " =", " a=", " =1", " A=1", " a=01", " a=+1", " a=1 b", " a=1 b=", " a=1 b=05", ` a="b c"`, ` a="`, " a=x", " a=x61", " a=x2", " a=null", " a==1", " abcdefghijklmnopq=1", " a=9223372036854775808", "a=(null)", " a= (null)",
		" a=1 a=1", " a=1 b=1 a=(null)", ` a=1 a="1"`, " a=01 a=01",
		` a="` + strings.Repeat("a", 641) + `"`, " a=x" + strings.Repeat("20", 641),
	} {
		if r, e := record.Parse(head + s); !reflect.DeepEqual(r, api.Record{}) || e != api.ErrRecordForm {
			t.Errorf("Parse of the pairs %.60q: %+v, %d", s, r, e)
		}
	}
	for _, n := range []int{25, 26, 100, 9000, 1 << 18} {
		var many strings.Builder
		for i := range n {
			many.WriteString(" n" + strconv.Itoa(i) + "=0")
		}
		for _, s := range []string{many.String(), strings.Repeat(" a=1", n), strings.Repeat(" ", n), strings.Repeat("=", n)} {
			if r, e := record.Parse(head + s); !reflect.DeepEqual(r, api.Record{}) || e != api.ErrRecordForm {
				t.Errorf("Parse of %d bytes of pairs: %d", len(s), e)
			}
		}
	}
}

func TestParseOfChangedLines(t *testing.T) {
	for _, s := range []string{
		`type=CWD msg=audit(12.345:7): cwd="/tmp"`,
		`type=EOE msg=audit(0.000:0):`,
		`type=LOSS msg=audit(1099511627.776:1073741824): a=-1 b=(null) c=x20`,
	} {
		checkLine(t, s)
		for i := range len(s) + 1 {
			for c := range 256 {
				checkLine(t, s[:i]+string([]byte{byte(c)})+s[i:])
				if i < len(s) {
					checkLine(t, s[:i]+string([]byte{byte(c)})+s[i+1:])
				}
			}
			for j := i; j <= len(s); j++ {
				checkLine(t, s[:i]+s[j:])
				checkLine(t, s[:j]+s[i:])
			}
		}
	}
}

// P3.4

func TestGetReturnsTheFirstPairWithTheName(t *testing.T) {
	odd := api.Pair{Name: "B C", Kind: -7, Num: math.MinInt, Text: strings.Repeat("\n", 1000)}
	r := api.Record{Type: -1, Time: -1, Serial: -1, Pairs: pairs(num("a", 1), text("b", "x"), num("a", 2), null("c"), odd, api.Pair{Num: 3}, api.Pair{Num: 4}, api.Pair{Name: "d"})}
	for _, p := range pairs(num("a", 1), text("b", "x"), null("c"), odd, api.Pair{Num: 3}, api.Pair{Name: "d"}) {
		if got, ok := record.Get(r, p.Name); got != p || !ok {
			t.Errorf("Get(%q) = %+v, %t", p.Name, got, ok)
		}
	}
	for _, name := range []string{"A", "a ", "aa", "B", "B C ", "x", "e", "\x00"} {
		if got, ok := record.Get(r, name); got != (api.Pair{}) || ok {
			t.Errorf("Get(%q) = %+v, %t", name, got, ok)
		}
	}
}

func TestGetOfManyPairs(t *testing.T) {
	r := api.Record{Pairs: numbered(1000)}
	for i, p := range r.Pairs {
		if got, ok := record.Get(r, p.Name); got != num("n"+strconv.Itoa(i), -i) || !ok {
			t.Errorf("Get(%q) = %+v, %t", p.Name, got, ok)
		}
	}
}

func TestGetWithoutPairs(t *testing.T) {
	for _, r := range []api.Record{{}, {Type: 1320}, {Pairs: []api.Pair{}}, {Pairs: numbered(3)[:0]}} {
		for _, name := range []string{"", "a", "n0", "type"} {
			if got, ok := record.Get(r, name); got != (api.Pair{}) || ok {
				t.Errorf("Get(%+v, %q) = %+v, %t", r, name, got, ok)
			}
		}
	}
}

// P3.5

func TestRecordsAreReadBackAndDiffer(t *testing.T) {
	recordsOf := map[string]api.Record{}
	for _, r := range samples() {
		s, e := record.Format(r)
		if back, e2 := record.Parse(s); !same(back, r) || e != api.OK || e2 != api.OK {
			t.Fatalf("Parse(Format(%+v)) = Parse(%q) = %+v, %d, %d", r, s, back, e, e2)
		}
		if other, found := recordsOf[s]; found && !same(other, r) {
			t.Fatalf("%+v and %+v have the line %q", r, other, s)
		}
		recordsOf[s] = r
		if strings.Contains(s, "\n") || len(s) > 31240 {
			t.Fatalf("the line %q of %+v is too long, or has a line feed", s, r)
		}
	}
}

// R2

func TestArgumentsAreNotModified(t *testing.T) {
	l := append(samples()[:200], end(numbered(30)[:3]...))
	for _, x := range wrongRecords() {
		l = append(l, x.r)
	}
	for _, r := range l {
		before := slices.Clone(r.Pairs[:cap(r.Pairs)])
		record.Check(r)
		record.Format(r)
		record.Get(r, "a")
		if !slices.Equal(r.Pairs[:cap(r.Pairs)], before) {
			t.Errorf("the pairs of %+v, or the memory behind them, are modified", r)
		}
	}
}

func TestResultsOfParseAreNewMemory(t *testing.T) {
	const line = "type=EOE msg=audit(0.001:2): a=1 b=2 c=3"
	first, _ := record.Parse(line)
	second, _ := record.Parse(line)
	clear(first.Pairs[:cap(first.Pairs)])
	want := api.Record{Type: 1320, Time: 1, Serial: 2, Pairs: pairs(num("a", 1), num("b", 2), num("c", 3))}
	if third, _ := record.Parse(line); !same(second, want) || !same(third, want) {
		t.Errorf("Parse(%q) = %+v and %+v after a change of its result", line, second, third)
	}
}
