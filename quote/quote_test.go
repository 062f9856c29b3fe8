package quote

import (
	"math"
	"slices"
	"strconv"
	"strings"
	"testing"
	"unicode/utf8"
	"unsafe"
)

// edges are the least and the greatest signs of one, two, three and four bytes, those beside the gap, and that which stands for wrong bytes elsewhere.
var edges = []int{0, 1, '\n', ' ', '&', '(', 'a', 0x7f, 0x80, 0x7ff, 0x800, 0xd7ff, 0xe000, 0xfffd, 0xffff, 0x10000, 0x10ffff}

// noSigns are numbers that are no sign, some of which are one in their lowest 32 bits or fewer.
var noSigns = []int{-1, -'a', math.MinInt, math.MaxInt, math.MinInt32, math.MaxInt32, 0xd800, 0xdbff, 0xdc00, 0xdfff, 0x110000, 1<<32 + 'a', 1 << 32, 1<<32 + '\'', math.MinInt + 'a', math.MinInt + 0xfffd, -1<<32 + 'a', 1<<32 - 1, 1 << 21, 1<<31 + 'a', 1<<33 + 0x10ffff, 1 << 62}

// wrongBytes are bytes that are no sign's.
var wrongBytes = []string{
	"\x80", "\xbf", "\xc0", "\xc1", "\xf5", "\xff", "\xfe", "\xc0\x80", "\xc0\xaf", "\xc1\xbf", "\xe0\x80\x80", "\xe0\x80\xaf", "\xe0\x9f\xbf", "\xf0\x80\x80\x80", "\xf0\x80\x80\xaf", "\xf0\x8f\xbf\xbf",
	"\xc3", "\xdf", "\xe2", "\xe2\x86", "\xef\xbf", "\xf0", "\xf0\x9f", "\xf0\x9f\x98", "\xf4\x8f\xbf", "\xed\xa0\x80", "\xed\xaf\xbf", "\xed\xb0\x80", "\xed\xbf\xbf", "\xf4\x90\x80\x80", "\xf5\x80\x80\x80", "\xf8\x88\x80\x80\x80",
	"\xc3a", "\xe2a\x86", "\xe2\x86a", "\xc3\xc3\xa9", "\xc3\xa9\xa9", "\xef\xbf\xbd\xbd", "\xc0\xa7", "\xe0\x80\xa7", "\xf0\x80\x80\xa7", "\xe2\x86\xe2\x86\x90",
}

// modelBytes are the bytes of a sign, laid by hand.
func modelBytes(n int) string {
	low := func(shift int) byte { return byte(0x80 + n>>shift%64) }
	switch {
	case n < 0x80:
		return string([]byte{byte(n)})
	case n < 0x800:
		return string([]byte{byte(0xc0 + n>>6), low(0)})
	case n < 0x10000:
		return string([]byte{byte(0xe0 + n>>12), low(6), low(0)})
	}
	return string([]byte{byte(0xf0 + n>>18), low(12), low(6), low(0)})
}

// modelText is Text of signs.
func modelText(l []int) string {
	inner := ""
	for _, n := range l {
		inner += modelBytes(n)
	}
	return "'" + strings.ReplaceAll(inner, "'", "''") + "'"
}

// modelRead is Read: it tries each front of s.
func modelRead(s string) ([]int, string, bool) {
	for size := 2; size <= len(s); size++ {
		front, rest := s[:size], s[size:]
		if front[0] != '\'' || front[size-1] != '\'' || strings.HasPrefix(rest, "'") {
			continue
		}
		inner := front[1 : size-1]
		if !utf8.ValidString(inner) || strings.Contains(strings.ReplaceAll(inner, "''", ""), "'") {
			continue
		}
		var l []int
		for _, sign := range []rune(strings.ReplaceAll(inner, "''", "'")) {
			l = append(l, int(sign))
		}
		return l, rest, true
	}
	return nil, "", false
}

// brief is s, or its front and how long it is.
func brief(s string) string {
	if len(s) > 100 {
		return strconv.Quote(s[:60]) + ".. of " + strconv.Itoa(len(s))
	}
	return strconv.Quote(s)
}

// briefList is l, or how long it is where it is too long to be told.
func briefList(l []int) any {
	if len(l) > 40 {
		return len(l)
	}
	return l
}

// checkText checks what Text answers of l.
func checkText(t *testing.T, l []int, want string, is bool) {
	t.Helper()
	if s, ok := Text(l...); s != want || ok != is {
		t.Errorf("Text(%v) is %s, %v; it should be %s, %v", briefList(l), brief(s), ok, brief(want), is)
	}
}

// checkRead checks what Read answers of s.
func checkRead(t *testing.T, s string, want []int, left string, is bool) {
	t.Helper()
	l, rest, ok := Read(s)
	if !slices.Equal(l, want) || rest != left || ok != is {
		t.Errorf("Read(%s) is %v, %s, %v; it should be %v, %s, %v", brief(s), briefList(l), brief(rest), ok, briefList(want), brief(left), is)
	}
}

// checkModel checks that Read answers of s what the model does.
func checkModel(t *testing.T, s string) {
	t.Helper()
	want, left, is := modelRead(s)
	checkRead(t, s, want, left, is)
}

// follows are what may stand behind signs in quotes.
var follows = []string{"", "x", " ", "x'", " 'a'", ")('a')", "\"", "\x80", "\xff\xfe'", "\xe2\x86", "\xed\xa0\x80", "\u2190", "\ufffd", "\U0010ffff'", "\x00", "x''", "&'"}

// checkBoth checks that l is written as want, and read as it was, whatever follows.
func checkBoth(t *testing.T, l []int, want string) {
	t.Helper()
	checkText(t, l, want, true)
	for _, rest := range follows {
		checkRead(t, want+rest, l, rest, true)
	}
}

// around are lists in which l stands alone, first, last, in the middle, and twice.
func around(l ...int) [][]int {
	return [][]int{
		l,
		slices.Concat(l, []int{'b'}),
		slices.Concat([]int{'a'}, l),
		slices.Concat([]int{'a'}, l, []int{'b'}),
		slices.Concat(l, l),
		slices.Concat([]int{'\''}, l, []int{'\''}),
		slices.Concat(l, []int{0x2190}, l),
		slices.Concat([]int{0x1f600, 0xe9}, l, []int{0x80, 0xffff}),
	}
}

// walk calls f with each row of parts up to most of them.
func walk(parts []string, most int, f func(s string)) {
	var step func(s string, left int)
	step = func(s string, left int) {
		f(s)
		if left == 0 {
			return
		}
		for _, p := range parts {
			step(s+p, left-1)
		}
	}
	step("", most)
}

func TestExamples(t *testing.T) { // P13.1, P13.2
	for _, c := range []struct {
		l []int
		s string
	}{
		{[]int{'a', '\''}, `'a'''`},
		{nil, `''`},
		{[]int{}, `''`},
		{[]int{'a'}, `'a'`},
		{[]int{'a', 'b', 'c'}, `'abc'`},
		{[]int{'\''}, `''''`},
		{[]int{'\'', '\''}, `''''''`},
		{[]int{'\'', 'a'}, `'''a'`},
		{[]int{'a', '\'', 'b'}, `'a''b'`},
		{[]int{'a', '\'', '\'', 'b'}, `'a''''b'`},
		{[]int{'\'', 'a', '\''}, `'''a'''`},
		{[]int{0x2190, ' ', 0x1f600}, "'\xe2\x86\x90 \xf0\x9f\x98\x80'"},
		{[]int{0, '\n', '"', '`', 0x2019}, "'\x00\n\"`\xe2\x80\x99'"},
		{[]int{0xfffd}, "'\xef\xbf\xbd'"},
		{[]int{0xfffd, '\'', 0xfffd}, "'\xef\xbf\xbd''\xef\xbf\xbd'"},
	} {
		checkBoth(t, c.l, c.s)
	}
}

func TestTextOfSigns(t *testing.T) { // P13.1
	for _, n := range append(edges, '\'') {
		for _, l := range around(n) {
			checkBoth(t, l, modelText(l))
		}
	}
}

func TestTextOfEachSign(t *testing.T) { // P13.1, P13.4
	for n := range 0x110000 {
		if n >= 0xd800 && n <= 0xdfff {
			checkText(t, []int{n}, "", false)
			continue
		}
		want := modelText([]int{n})
		checkText(t, []int{n}, want, true)
		checkRead(t, want+"x", []int{n}, "x", true)
	}
}

func TestTextOfNoSigns(t *testing.T) { // P13.1
	for _, n := range noSigns {
		for _, l := range around(n) {
			checkText(t, l, "", false)
		}
	}
	for shift := range 64 {
		if shift < 21 {
			continue
		}
		for _, n := range edges {
			checkText(t, []int{'a', n ^ 1<<shift}, "", false)
			checkText(t, []int{n ^ 1<<shift, 'a'}, "", false)
		}
	}
}

func TestReadQuotes(t *testing.T) { // P13.2
	for _, c := range []struct {
		s    string
		l    []int
		rest string
		ok   bool
	}{
		{"", nil, "", false},
		{"'", nil, "", false},
		{"''", nil, "", true},
		{"'''", nil, "", false},
		{"''''", []int{'\''}, "", true},
		{"'''''", nil, "", false},
		{"''''''", []int{'\'', '\''}, "", true},
		{"'''''''", nil, "", false},
		{"'a", nil, "", false},
		{"'a''", nil, "", false},
		{"'a'''", []int{'a', '\''}, "", true},
		{"'a''''", nil, "", false},
		{"'a''b", nil, "", false},
		{"'a''b'", []int{'a', '\'', 'b'}, "", true},
		{"'a'b'", []int{'a'}, "b'", true},
		{"'a' 'b'", []int{'a'}, " 'b'", true},
		{"'a'x''", []int{'a'}, "x''", true},
		{"''x", nil, "x", true},
		{"'' '", nil, " '", true},
		{"'' ''", nil, " ''", true},
		{"'''x", nil, "", false},
		{"''''x", []int{'\''}, "x", true},
		{" 'a'", nil, "", false},
		{"\x00'a'", nil, "", false},
		{"\"a\"", nil, "", false},
		{"\"'a'\"", nil, "", false},
		{"`a`", nil, "", false},
		{"a", nil, "", false},
		{"a'", nil, "", false},
		{"a'b'", nil, "", false},
		{"\u2018a\u2019", nil, "", false},
		{"\u2190'a'", nil, "", false},
		{"\U0001f600'a'", nil, "", false},
		{"\xff'a'", nil, "", false},
		{"\xef\xbb\xbf'a'", nil, "", false},
		{"'\u2190", nil, "", false},
		{"'\u2190'", []int{0x2190}, "", true},
		{"'\u2190''", nil, "", false},
		{"'\u2019'", []int{0x2019}, "", true},
		{"'a\u2019", nil, "", false},
		{"'a\"'", []int{'a', '"'}, "", true},
		{"'\\'", []int{'\\'}, "", true},
		{"'\\''", nil, "", false},
	} {
		checkRead(t, c.s, c.l, c.rest, c.ok)
		checkModel(t, c.s)
	}
}

func TestReadWrongBytes(t *testing.T) { // P13.2
	for _, b := range wrongBytes {
		for _, s := range []string{
			"'" + b, "'" + b + "'", "'" + b + "''", "'" + b + "'''", "'" + b + "'x", "'a" + b + "'", "'" + b + "a'", "'a" + b + "b'", "'''" + b + "'", "'''" + b + "'''", "'" + b + "''a'",
			"'\u2190" + b + "'", "'" + b + "\u2190'", "'" + b + b + "'", "'\ufffd" + b + "'", "'" + b + "\ufffd'", b + "'a'", "'a''" + b + "' ",
		} {
			checkRead(t, s, nil, "", false)
		}
		for _, rest := range []string{b, b + "'", b + "''", b + b, "x" + b, b + "'a'"} {
			checkRead(t, "'a'"+rest, []int{'a'}, rest, true)
			checkRead(t, "''"+rest, nil, rest, true)
			checkRead(t, "''''"+rest, []int{'\''}, rest, true)
		}
	}
}

func TestReadEachByte(t *testing.T) { // P13.2
	for k := range 256 {
		b := string([]byte{byte(k)})
		for _, s := range []string{b, b + "'", b + "'a'", "'" + b, "'" + b + "'", "'a" + b + "'", "'" + b + "a'", "'\u2190" + b + "'", "''" + b, "'a'" + b, "''''" + b, "'a'" + b + "'", "'\xe2" + b + "\x90'", "'\xe2\x86" + b + "'", "'" + b + "\x86\x90'", "'" + b + "\x90'", "'" + b + "\x90\x90\x90'", "'\xf0" + b + "\x90\x90'", "'\xf4" + b + "\x90\x90'", "'\xe0" + b + "\x90'", "'\xed" + b + "\x90'"} {
			checkModel(t, s)
		}
	}
}

func TestReadEachTwoBytes(t *testing.T) { // P13.2
	for one := range 256 {
		for two := range 256 {
			b := string([]byte{byte(one), byte(two)})
			checkModel(t, "'"+b+"'")
			checkModel(t, "'"+b+"\x90'")
			checkModel(t, "'"+b+"\x90\x90'")
			checkModel(t, "'a'"+b)
		}
	}
}

func TestReadShortTexts(t *testing.T) { // P13.2, P13.4
	check := func(s string) {
		checkModel(t, s)
		l, rest, ok := Read(s)
		if !ok {
			return
		}
		text, right := Text(l...)
		if !right || text+rest != s || strings.HasPrefix(rest, "'") {
			t.Errorf("Read(%q) is %v, %q, of which Text writes %q", s, l, rest, text)
		}
	}
	walk([]string{"'", "a", " ", "\"", "\xe2", "\x86", "\x90"}, 6, check)
	walk([]string{"'", "''", "a", "\xef\xbf\xbd", "\xf0\x9f\x98\x80", "\xff", "\xed\xa0\x80", "\xc3\xa9"}, 5, check)
	walk([]string{"'", "x"}, 13, check)
	walk([]string{"'", "\x00", "\x7f", "\x80", "\xbf", "\xc2", "\xf4", "\x8f"}, 5, check)
}

func TestLong(t *testing.T) { // P13.1, P13.2
	const most = 1 << 20
	for _, n := range []int{'a', '\'', 0x2190, 0x10ffff} {
		l := slices.Repeat([]int{n}, most)
		each := modelText([]int{n})
		want := "'" + strings.Repeat(each[1:len(each)-1], most) + "'"
		rest := " " + want
		checkText(t, l, want, true)
		checkRead(t, want+rest, l, rest, true)
		checkRead(t, want, l, "", true)
		checkRead(t, want[:len(want)-1], nil, "", false)
		checkRead(t, want+"'", nil, "", false)
		checkRead(t, want[:len(want)-1]+"\xff'", nil, "", false)
		l[most-1] = 0xd800
		checkText(t, l, "", false)
		l[most-1], l[0] = n, -1
		checkText(t, l, "", false)
	}
}

// roomy is l with spare room behind it, which is filled.
func roomy(l []int) ([]int, []int) {
	room := append(slices.Clone(l), 77, 78, 79, 80)
	return room[:len(l)], room
}

func TestNotChanged(t *testing.T) { // P13.3
	for _, first := range [][]int{nil, {'a'}, {'\''}, {'a', '\'', 0x2190}, {'a', -1}, {0xd800, 'b'}} {
		l, room := roomy(first)
		before := slices.Clone(room)
		text, ok := Text(l...)
		if !slices.Equal(room, before) {
			t.Errorf("Text changed %v to %v", before, room)
		}
		kept := strings.Clone(text)
		for k := range room {
			room[k] = 'z'
		}
		if text != kept {
			t.Errorf("what Text answered, %q, is %q now", kept, text)
		}
		copy(room, before)
		if again, is := Text(l...); again != text || is != ok {
			t.Errorf("Text(%v) is %q, then %q", first, text, again)
		}
	}
}

func TestNewMemory(t *testing.T) { // P13.3
	for _, s := range []string{"'a'rest", "''rest", "'''a'' '\xff", "'\u2190' 'b'", "'abc''"} {
		b := []byte(s)
		l, rest, ok := Read(unsafe.String(&b[0], len(b)))
		want, left, is := modelRead(s)
		for k := range b {
			b[k] = '#'
		}
		if !slices.Equal(l, want) || rest != left || ok != is {
			t.Errorf("what Read answered of %q, %v %q, changed with it", s, l, rest)
		}
		for k := range l[:cap(l)] {
			l[:cap(l)][k] = -7
		}
		checkRead(t, s, want, left, is)
	}
}
