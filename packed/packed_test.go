package packed

import (
	"reflect"
	"strings"
	"testing"

	"sift/api"
)

func TestReadTellsRulesAndStart(t *testing.T) {
	got, e := Read("SG\x02a\x00\n\x00\x00\x01b\x00\x02\x00\x01\x01c\x00")
	want := Text{
		Kind:    KindRules,
		Symbols: 2,
		Rules: []Rule{
			{Left: 'a', Right: '\n', Part: Part{Length: 2, Newlines: 1, First: 'a', Last: '\n'}},
			{Left: 256, Right: 'b', Part: Part{Length: 3, Newlines: 1, First: 'a', Last: 'b'}},
		},
		Start: []int{257, 'c'},
		Whole: Part{Length: 4, Newlines: 1, First: 'a', Last: 'c'},
	}
	if e != api.OK || !reflect.DeepEqual(got, want) {
		t.Errorf("Read = %+v, %d, want %+v", got, e, want)
	}
}

// The codes a, 257, CLEAR, b, 257: each 257 is another rule.
func TestReadMakesRulesOfEntries(t *testing.T) {
	got, e := Read("SZ\x09" + bytesOf(9, 'a', 257, 256, 'b', 257))
	want := Text{
		Kind:    KindCodes,
		Symbols: 5,
		Rules: []Rule{
			{Left: 'a', Right: 'a', Part: Part{Length: 2, First: 'a', Last: 'a'}},
			{Left: 'b', Right: 'b', Part: Part{Length: 2, First: 'b', Last: 'b'}},
		},
		Start: []int{'a', 256, 'b', 257},
		Whole: Part{Length: 6, First: 'a', Last: 'b'},
	}
	if e != api.OK || !reflect.DeepEqual(got, want) {
		t.Errorf("Read = %+v, %d, want %+v", got, e, want)
	}
}

// bytesOf lays numbers one behind the other, the lowest bits first.
func bytesOf(bits int, numbers ...int) string {
	out := make([]byte, (bits*len(numbers)+7)/8)
	for k, n := range numbers {
		for i := range bits {
			at := k*bits + i
			out[at/8] |= byte(n >> i & 1 << (at % 8))
		}
	}
	return string(out)
}

func TestReadTellsNothingBesideAnError(t *testing.T) {
	twice := "SG\x29"
	for k := range 41 {
		symbol := string([]byte{byte(k - 1), 1})
		if k == 0 {
			symbol = "a\x00"
		}
		twice += symbol + symbol
	}
	for file, want := range map[string]api.Errno{
		"":                                      api.ErrFile,
		"SG\x00\x01\x00a\x00b":                  api.ErrFile,
		"SZ\x09a\x02\xff":                       api.ErrFile,
		"SZ\x09" + strings.Repeat("\x00", 4000): api.ErrFile,
		twice + "\x01\x00\x28\x01":              api.ErrBig,
		twice + "\x01\x00\x28\x01x":             api.ErrFile,
	} {
		got, e := Read(file)
		if e != want || !reflect.DeepEqual(got, Text{}) {
			t.Errorf("Read(%.20q) = %+v, %d, want nothing, %d", file, got, e, want)
		}
	}
}

func TestRulesStandBehindThoseThatTheyAreMadeOf(t *testing.T) {
	got, _ := Read("SZ\x09" + bytesOf(9, 'a', 'b', 257, 259, 256, 'b', 257, 258, 258, 'c'))
	if len(got.Rules) != 7 {
		t.Fatalf("%d rules", len(got.Rules))
	}
	for k, rule := range got.Rules {
		if rule.Left >= api.Rule+k || rule.Right >= api.Rule+k {
			t.Errorf("rule %d is %+v", k, rule)
		}
	}
}

func TestJoin(t *testing.T) {
	a := Part{Length: 2, Newlines: 1, First: 'a', Last: '\n'}
	b := Part{Length: 3, Newlines: 2, First: '\n', Last: 'b'}
	long := Part{Length: tooLong, Newlines: tooLong, First: 'x', Last: 'y'}
	for _, c := range []struct{ a, b, want Part }{
		{a, b, Part{Length: 5, Newlines: 3, First: 'a', Last: 'b'}},
		{Part{}, b, b},
		{a, Part{}, a},
		{Part{}, Part{}, Part{}},
		{long, long, long},
		{a, long, Part{Length: tooLong, Newlines: tooLong, First: 'a', Last: 'y'}},
		{Part{Length: api.MaxLength - 1}, partOfByte(0), Part{Length: api.MaxLength}},
		{Part{Length: api.MaxLength}, partOfByte(0), Part{Length: tooLong}},
	} {
		if got := join(c.a, c.b); got != c.want {
			t.Errorf("join(%+v, %+v) = %+v, want %+v", c.a, c.b, got, c.want)
		}
	}
}

func TestCutLeavesTheTextAsItIs(t *testing.T) {
	text, _ := Read("SZ\x09" + bytesOf(9, 'a', 257, 258))
	before, _ := Read("SZ\x09" + bytesOf(9, 'a', 257, 258))
	for range 2 {
		if got := text.Cut(1, 5); got != "aaaa" {
			t.Errorf("Cut = %q", got)
		}
	}
	if !reflect.DeepEqual(text, before) {
		t.Error("a cut changed the text")
	}
}

func TestBitsWrittenAreRead(t *testing.T) {
	w := bitWriter{}
	for n := range 5000 {
		w.number(n, 13+n%4)
	}
	r := bitReader{bytes: w.end()}
	for n := range 5000 {
		if got := r.number(13 + n%4); got != n {
			t.Fatalf("number %d was read as %d", n, got)
		}
	}
	if !r.readEnd() {
		t.Error("bits are left that are 1, or a whole byte of them")
	}
}

func TestWrittenFilesAreRead(t *testing.T) {
	codes, e := Read(WriteCodes("aaab", 9))
	want := Text{
		Kind:    KindCodes,
		Symbols: 3,
		Rules: []Rule{
			{Left: 'a', Right: 'a', Part: Part{Length: 2, First: 'a', Last: 'a'}},
			{Left: 256, Right: 'b', Part: Part{Length: 3, First: 'a', Last: 'b'}},
		},
		Start: []int{'a', 256, 'b'},
		Whole: Part{Length: 4, First: 'a', Last: 'b'},
	}
	if e != api.OK || !reflect.DeepEqual(codes, want) {
		t.Errorf("codes: %+v, %d, want %+v", codes, e, want)
	}
	rules, e := Read(WriteRules("a\na\nb"))
	want = Text{
		Kind:    KindRules,
		Symbols: 3,
		Rules:   []Rule{{Left: 'a', Right: '\n', Part: Part{Length: 2, Newlines: 1, First: 'a', Last: '\n'}}},
		Start:   []int{256, 256, 'b'},
		Whole:   Part{Length: 5, Newlines: 2, First: 'a', Last: 'b'},
	}
	if e != api.OK || !reflect.DeepEqual(rules, want) {
		t.Errorf("rules: %+v, %d, want %+v", rules, e, want)
	}
}

func BenchmarkPack(b *testing.B) {
	text := strings.Repeat("abacabadabacabae\n", 35)
	for range b.N {
		WriteCodes(text, 12)
		WriteRules(text)
	}
}

func BenchmarkReadAndCut(b *testing.B) {
	file := "SZ\x0c" + strings.Repeat("\x00", 3997)
	for range b.N {
		text, _ := Read(file)
		text.Cut(100, 2100)
	}
}
