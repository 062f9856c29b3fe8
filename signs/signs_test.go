package signs

import (
	"regexp"
	"strconv"
	"strings"
	"testing"
)

// tableText is the table as the chapter tells it.
const tableText = "2190 l, 2192 r, 2374 p, 2373 i, 2375 w, 237a a, 2207 g, 2206 t, 2359 T, 2395 q, 235e Q, af -, d7 x, f7 /, 2264 <, 2265 >, 2260 =, 2227 ^, 2228 v, 220a e, 2308 u, 230a d, 2218 o, 25cb O, 235f *, 233d f, 2349 y, 2282 c, 2283 C, 2229 n, 222a U, 2352 G, 234b H, 234e X, 2355 F, 2339 D, 2371 V, 2372 A, 22a5 b, 22a4 B, 22c4 ;, 235d #, a8 :"

// stands is the table by its signs.
func stands(t *testing.T) map[int]string {
	m := map[int]string{}
	for _, row := range strings.Split(tableText, ", ") {
		digits, plain, _ := strings.Cut(row, " ")
		sign, err := strconv.ParseInt(digits, 16, 32)
		if err != nil || len(plain) != 1 {
			t.Fatalf("row %q", row)
		}
		m[int(sign)] = plain
	}
	if len(m) != 43 {
		t.Fatalf("%d rows", len(m))
	}
	return m
}

// isSign tells if there is a sign n.
func isSign(n int) bool { return n >= 0 && n < 0xd800 || n > 0xdfff && n <= 0x10ffff }

// bytesIn are those of sign n in size bytes, be they too many or n too great.
func bytesIn(n, size int) string {
	b := make([]byte, size)
	for k := size - 1; k > 0; k-- {
		b[k] = byte(0x80 | n&0x3f)
		n >>= 6
	}
	heads := [...]int{0, 0, 0xc0, 0xe0, 0xf0, 0xf8, 0xfc}
	b[0] = byte(heads[size] | n)
	return string(b)
}

// fewest is how many bytes sign n has.
func fewest(n int) int {
	switch {
	case n < 0x80:
		return 1
	case n < 0x800:
		return 2
	case n < 0x10000:
		return 3
	}
	return 4
}

// textOf is the text of sign n.
func textOf(n int) string { return bytesIn(n, fewest(n)) }

// modelSigns are the signs of s, found by trying all sizes and writing back what was read.
func modelSigns(s string) ([]int, bool) {
	var l []int
	for s != "" {
		found := false
		for size := 1; size <= min(4, len(s)) && !found; size++ {
			n := int(s[0]) & [...]int{0, 0x7f, 0x1f, 0x0f, 0x07}[size]
			for k := 1; k < size; k++ {
				n = n<<6 | int(s[k])&0x3f
			}
			if isSign(n) && textOf(n) == s[:size] {
				l, s, found = append(l, n), s[size:], true
			}
		}
		if !found {
			return nil, false
		}
	}
	return l, true
}

// modelEscape is the escape of sign n.
func modelEscape(table map[int]string, n int) string {
	if n == '@' {
		return "@@"
	}
	if n >= 0x20 && n <= 0x7e {
		return string(rune(n))
	}
	if plain, ok := table[n]; ok {
		return "@" + plain
	}
	return "@{" + strings.ToUpper(strconv.FormatInt(int64(n), 16)) + "}"
}

// edges are signs at all bounds that the chapter names, and beside them.
func edges(t *testing.T) []int {
	l := []int{
		0, 1, 9, 0xa, 0xf, 0x10, 0x1e, 0x1f, 0x20, 0x21, 0x3f, '@', 0x41, '{', '}', 0x7d, 0x7e, 0x7f, 0x80, 0x81,
		0xff, 0x100, 0x7fe, 0x7ff, 0x800, 0x801, 0xfff, 0x1000, 0xd7fe, 0xd7ff, 0xe000, 0xe001,
		0xfffc, 0xfffd, 0xfffe, 0xffff, 0x10000, 0x10001, 0x1f600, 0xfffff, 0x100000, 0x10fffe, 0x10ffff,
	}
	for n := range stands(t) {
		l = append(l, n-1, n, n+1)
	}
	return l
}

// wrongBytes are texts that are not right, each by itself.
func wrongBytes() map[string]string {
	m := map[string]string{
		"a byte that goes on, the least":     "\x80",
		"a byte that goes on, the greatest":  "\xbf",
		"a byte that begins two":             "\xc3",
		"a byte that begins three":           "\xe2",
		"a byte that begins four":            "\xf0",
		"three, cut by one":                  "\xe2\x86",
		"four, cut by one":                   "\xf0\x9f\x98",
		"four, cut by two":                   "\xf0\x9f",
		"fffd, cut by one":                   "\xef\xbf",
		"0 in two":                           "\xc0\x80",
		"7f in two":                          bytesIn(0x7f, 2),
		"0 in three":                         "\xe0\x80\x80",
		"7ff in three":                       bytesIn(0x7ff, 3),
		"0 in four":                          "\xf0\x80\x80\x80",
		"ffff in four":                       bytesIn(0xffff, 4),
		"2190 in four":                       bytesIn(0x2190, 4),
		"d800":                               bytesIn(0xd800, 3),
		"dbff":                               bytesIn(0xdbff, 3),
		"dc00":                               bytesIn(0xdc00, 3),
		"dfff":                               bytesIn(0xdfff, 3),
		"d83d and de00":                      bytesIn(0xd83d, 3) + bytesIn(0xde00, 3),
		"110000":                             bytesIn(0x110000, 4),
		"13ffff":                             bytesIn(0x13ffff, 4),
		"1fffff":                             bytesIn(0x1fffff, 4),
		"five bytes":                         bytesIn(0x200000, 5),
		"six bytes":                          bytesIn(0x4000000, 6),
		"fe":                                 "\xfe",
		"ff":                                 "\xff",
		"a sign and one that goes on behind": "\u2190\x80",
	}
	return m
}

// around lays a wrong text at the beginning, in the middle and at the end of right ones.
func around(wrong string) []string {
	return []string{
		wrong, wrong + "a", "a" + wrong, "a" + wrong + "b",
		wrong + "\u2190", "\u2190" + wrong, "\u2190" + wrong + "\u2192",
		wrong + "\ufffd", "\ufffd" + wrong, "\ufffd" + wrong + "\ufffd", "\U0001f600" + wrong + "\U0001f600", wrong + wrong,
	}
}

// checkText holds all three calls against the model, of a text.
func checkText(t *testing.T, table map[int]string, s string) {
	t.Helper()
	signs, right := modelSigns(s)
	if Right(s) != right {
		t.Fatalf("Right of %q is not %v", s, right)
	}
	want := ""
	for _, n := range signs {
		want += modelEscape(table, n)
	}
	got, ok := Escape(s)
	if got != want || ok != right {
		t.Fatalf("Escape of %q: %q %v, not %q %v", s, got, ok, want, right)
	}
	if !right {
		return
	}
	if back, ok := Unescape(want); back != s || !ok {
		t.Fatalf("Unescape of %q: %q %v, not %q", want, back, ok, s)
	}
}

// wrongEscapes tells that none of these, nor one of them among others, is what a text was escaped to.
func wrongEscapes(t *testing.T, wrong ...string) {
	t.Helper()
	for _, w := range wrong {
		for _, in := range []string{
			w, "a" + w, "@@" + w, "@l" + w, "@{0}" + w, "a@{1F600}b" + w,
			w + " ", w + "@@", w + "@l", w + "@{0}", "a" + w + "z", "@{0}" + w + "@{0}",
		} {
			if got, ok := Unescape(in); ok || got != "" {
				t.Errorf("Unescape of %q: %q %v", in, got, ok)
			}
		}
	}
}

func TestExamples(t *testing.T) {
	for in, want := range map[string]string{"a\u2190": "a@l", "\U0001f600": "@{1F600}"} {
		if got, ok := Escape(in); got != want || !ok || !Right(in) {
			t.Errorf("Escape of %q: %q %v", in, got, ok)
		}
		if got, ok := Unescape(want); got != in || !ok {
			t.Errorf("Unescape of %q: %q %v", want, got, ok)
		}
	}
}

func TestEscapeOrdinary(t *testing.T) {
	for in, want := range map[string]string{
		"":                                 "",
		" ":                                " ",
		"abc":                              "abc",
		"A\u21903\u23741 2 3":              "A@l3@p1 2 3",
		"\u2395IO\u21901":                  "@qIO@l1",
		"\u00af5":                          "@-5",
		"a@b":                              "a@@b",
		"@@@":                              "@@@@@@",
		"@{41}":                            "@@{41}",
		"@l":                               "@@l",
		"\x00":                             "@{0}",
		"\x1f ~\x7f":                       "@{1F} ~@{7F}",
		"\n\r\t":                           "@{A}@{D}@{9}",
		"\u07ff\u0800":                     "@{7FF}@{800}",
		"\ud7ff\ue000":                     "@{D7FF}@{E000}",
		"\ufffd\uffff\U00010000\U0010ffff": "@{FFFD}@{FFFF}@{10000}@{10FFFF}",
		"a\ufffdb":                         "a@{FFFD}b",
		"\ufffd\u2190":                     "@{FFFD}@l",
		"\u00a7\u00a8\u00a9":               "@{A7}@:@{A9}",
		"\u2191\u2193":                     "@{2191}@{2193}",
	} {
		if got, ok := Escape(in); got != want || !ok {
			t.Errorf("Escape of %q: %q %v, not %q", in, got, ok, want)
		}
		if got, ok := Unescape(want); got != in || !ok {
			t.Errorf("Unescape of %q: %q %v, not %q", want, got, ok, in)
		}
	}
}

func TestTable(t *testing.T) {
	plains := map[string]bool{}
	for n, plain := range stands(t) {
		plains[plain] = true
		if got, ok := Escape(textOf(n)); got != "@"+plain || !ok {
			t.Errorf("Escape of %x: %q %v", n, got, ok)
		}
		if got, ok := Unescape("@" + plain); got != textOf(n) || !ok {
			t.Errorf("Unescape of @%s: %q %v", plain, got, ok)
		}
	}
	// Behind an @, each other byte stands for nothing.
	plains["@"] = true
	for b := range 256 {
		in := "@" + string([]byte{byte(b)})
		if got, ok := Unescape(in); ok != plains[in[1:]] || !ok && got != "" {
			t.Errorf("Unescape of %q: %q %v", in, got, ok)
		}
	}
}

func TestEverySign(t *testing.T) {
	table := stands(t)
	owners := map[string]int{}
	for n := range 0x110000 {
		if !isSign(n) {
			continue
		}
		s, want := textOf(n), modelEscape(table, n)
		got, ok := Escape(s)
		if got != want || !ok || !Right(s) {
			t.Fatalf("Escape of %x: %q %v", n, got, ok)
		}
		if back, ok := Unescape(got); back != s || !ok {
			t.Fatalf("Unescape of %q: %q %v", got, back, ok)
		}
		if other, there := owners[got]; there {
			t.Fatalf("%x and %x are both %q", n, other, got)
		}
		owners[got] = n
	}
}

func TestPairsOfEdges(t *testing.T) {
	table, l := stands(t), edges(t)
	for _, a := range l {
		for _, b := range l {
			checkText(t, table, textOf(a)+textOf(b))
		}
	}
}

func TestShortTextsOfBytes(t *testing.T) {
	table := stands(t)
	checkText(t, table, "")
	for a := range 256 {
		checkText(t, table, string([]byte{byte(a)}))
		for b := range 256 {
			checkText(t, table, string([]byte{byte(a), byte(b)}))
		}
	}
	few := []byte{0, 0x1f, 'a', '@', 0x7f, 0x80, 0x8f, 0x90, 0x9f, 0xa0, 0xbd, 0xbf, 0xc0, 0xc1, 0xc2, 0xdf, 0xe0, 0xe1, 0xec, 0xed, 0xee, 0xef, 0xf0, 0xf1, 0xf3, 0xf4, 0xf5, 0xf7, 0xf8, 0xff}
	for _, a := range few {
		for _, b := range few {
			for _, c := range few {
				checkText(t, table, string([]byte{a, b, c}))
				for _, d := range few {
					checkText(t, table, string([]byte{a, b, c, d}))
				}
			}
		}
	}
}

func TestTextsThatAreNotRight(t *testing.T) {
	for what, wrong := range wrongBytes() {
		for _, in := range around(wrong) {
			if Right(in) {
				t.Errorf("%s: Right of %q", what, in)
			}
			if got, ok := Escape(in); ok || got != "" {
				t.Errorf("%s: Escape of %q: %q %v", what, in, got, ok)
			}
			if got, ok := Unescape(in); ok || got != "" {
				t.Errorf("%s: Unescape of %q: %q %v", what, in, got, ok)
			}
		}
	}
	// Of all that would be signs from d800 to dfff, and of many beyond 10ffff.
	for n := 0xd800; n <= 0xdfff; n++ {
		if Right(bytesIn(n, 3)) || Right("a"+bytesIn(n, 3)+"b") {
			t.Errorf("Right of %x", n)
		}
	}
	for n := 0x110000; n < 0x200000; n += 97 {
		if Right(bytesIn(n, 4)) {
			t.Errorf("Right of %x", n)
		}
	}
}

func TestRightOfThreeBytes(t *testing.T) {
	for n := range 0x10000 {
		want := n >= 0x800 && isSign(n)
		if Right(bytesIn(n, 3)) != want {
			t.Errorf("Right of %x in three bytes is not %v", n, want)
		}
	}
	for n := range 0x800 {
		if Right(bytesIn(n, 2)) != (n >= 0x80) {
			t.Errorf("Right of %x in two bytes", n)
		}
	}
	for n := 0; n < 0x200000; n += 31 {
		if Right(bytesIn(n, 4)) != (n >= 0x10000 && n <= 0x10ffff) {
			t.Errorf("Right of %x in four bytes", n)
		}
	}
}

func TestUnescapeNamedFaults(t *testing.T) {
	many := strings.Repeat("1", 100000)
	wrongEscapes(t,
		"@{", "@{}", "@{ }", "@{1F", "@{1F600", "@{FFFFFF", // no } behind, no digits
		"@{e4}", "@{1f600}", "@{E4e}", "@{aF1}", // small letters
		"@{00}", "@{01}", "@{09}", "@{0E4}", "@{01F600}", "@{000000}", "@{00000E4}", // a nought ahead
		"@{20}", "@{40}", "@{41}", "@{7B}", "@{7D}", "@{7E}", // plain signs, @ among them
		"@{AF}", "@{A8}", "@{D7}", "@{F7}", "@{2190}", "@{25CB}", "@{235D}", // of the table
		"@{D800}", "@{DBFF}", "@{DC00}", "@{DFFF}",
		"@{110000}", "@{110001}", "@{200000}", "@{FFFFFF}", "@{1000000}", "@{7FFFFFFF}", "@{80000000}", "@{FFFFFFFF}", "@{100000000}", "@{1000000E4}", "@{100000000000000E4}",
		"@{"+many+"}", "@{"+many, "@{"+strings.Repeat("0", 100000)+"E4}", "@{1"+strings.Repeat("0", 100000)+"E4}",
		"@{-1}", "@{+9}", "@{-E4}", "@{+E4}", "@{ 9}", "@{9 }", "@{0xE4}", "@{0XE4}", "@{E_4}", "@{E.4}", "@{E4h}", "@{G1}", "@{/1}", "@{:1}", "@{`1}", "@{[1}",
		"@{E@4}", "@{@{E4}}", "@{@E4}", "@{{E4}}", "@{\u00e4}", "@{E4\u2190}", "@{E\xff4}", "@{\x00}", "@{E4\x00}",
		"@z", "@ ", "@}", "@1", "@~", "@L", "@_", "@\u2190", "@\x00", "@\x7f", "@\x80", "@\xff", "@\u00ec",
		"\x00", "\n", "\x1f", "\x7f", "\u0080", "\u00af", "\u2190", "\ufffd", "\U0001f600",
		"\xff", "\x80", "\xc3", "\xe2\x86", "\xf0\x9f\x98",
	)
	for _, in := range []string{"@", "a@", "@@@", "@l@", "@{E4}@", "@@@@@", " @"} {
		if got, ok := Unescape(in); ok || got != "" {
			t.Errorf("Unescape of %q: %q %v", in, got, ok)
		}
	}
}

// modelUnescape reads t by a pattern of escapes, and holds what was found against the model's escapes.
func modelUnescape(table map[int]string, t string) (string, bool) {
	text := ""
	for _, part := range escapePattern.FindAllString(t, -1) {
		switch {
		case len(part) == 1:
			text += part
		case part == "@@":
			text += "@"
		case len(part) == 2:
			for n, plain := range table {
				if plain == part[1:] {
					text += textOf(n)
				}
			}
		default:
			n, _ := strconv.ParseInt(part[2:len(part)-1], 16, 64)
			if !isSign(int(n)) {
				return "", false
			}
			text += textOf(int(n))
		}
	}
	escapes := ""
	signs, _ := modelSigns(text)
	for _, n := range signs {
		escapes += modelEscape(table, n)
	}
	if escapes != t {
		return "", false
	}
	return text, true
}

var escapePattern = regexp.MustCompile(`@\{[0-9A-F]{1,8}\}|@.|[ -~]`)

func TestUnescapeShortTexts(t *testing.T) {
	table := stands(t)
	parts := []string{"@", "{", "}", "0", "1", "9", "A", "D8", "00", "l", "e4", "10FFFF", "110000", "AF", "\x1f", "\u00af", "\xff"}
	var walk func(in string, left int)
	walk = func(in string, left int) {
		want, is := modelUnescape(table, in)
		if got, ok := Unescape(in); got != want || ok != is {
			t.Fatalf("Unescape of %q: %q %v, not %q %v", in, got, ok, want, is)
		}
		if left == 0 {
			return
		}
		for _, part := range parts {
			walk(in+part, left-1)
		}
	}
	walk("", 4)
	walk("@{", 4)
	walk("@@{9}@{", 3)
}

// TestUnescapeDigits goes through all numbers of up to six digits, those that are no sign, too.
func TestUnescapeDigits(t *testing.T) {
	table := stands(t)
	check := func(n int) {
		in := "@{" + strings.ToUpper(strconv.FormatInt(int64(n), 16)) + "}"
		is := isSign(n) && modelEscape(table, n) == in
		want := ""
		if is {
			want = textOf(n)
		}
		if got, ok := Unescape(in); got != want || ok != is {
			t.Fatalf("Unescape of %q: %q %v, not %v", in, got, ok, is)
		}
	}
	for n := range 0x120000 {
		check(n)
	}
	for n := 0x120000; n < 0x2000000; n += 101 {
		check(n)
	}
	// Of these, the lowest bits would be signs' if higher ones were lost.
	for _, n := range edges(t) {
		for _, high := range []int{1 << 24, 1 << 28, 1 << 31, 1 << 32, 1 << 36, 1 << 60} {
			check(n + high)
		}
	}
}

func TestEscapedIsPlainAndBack(t *testing.T) {
	table := stands(t)
	seed := uint32(7)
	next := func(n int) int {
		seed = seed*1664525 + 1013904223
		return int(seed>>8) % n
	}
	pool := edges(t)
	for range 3000 {
		s := ""
		for range next(40) {
			s += textOf(pool[next(len(pool))])
		}
		checkText(t, table, s)
		e, _ := Escape(s)
		for k := range len(e) {
			if e[k] < 0x20 || e[k] > 0x7e {
				t.Fatalf("Escape of %q: byte %x", s, e[k])
			}
		}
		// What was escaped twice is unescaped twice: @ is no plain sign like others.
		twice, _ := Escape(e)
		once, ok := Unescape(twice)
		if once != e || !ok {
			t.Fatalf("Unescape of %q: %q %v", twice, once, ok)
		}
		// A cut anywhere, or a byte that is another one, gives no text, or one that is escaped so.
		if e == "" {
			continue
		}
		cut := e[:next(len(e))]
		turned := []byte(e)
		turned[next(len(e))] = byte(next(256))
		for _, in := range []string{cut, string(turned)} {
			got, ok := Unescape(in)
			if !ok && got != "" {
				t.Fatalf("Unescape of %q: %q", in, got)
			}
			if again, _ := Escape(got); ok && again != in {
				t.Fatalf("Unescape of %q: %q, which is %q", in, got, again)
			}
		}
	}
}

func TestLongTexts(t *testing.T) {
	const n = 1 << 20
	for _, row := range [][2]string{{"a", "a"}, {"@", "@@"}, {"\u2190", "@l"}, {"\U0010ffff", "@{10FFFF}"}} {
		s, want := strings.Repeat(row[0], n), strings.Repeat(row[1], n)
		if got, ok := Escape(s); got != want || !ok || !Right(s) {
			t.Errorf("Escape of many %q", row[0])
		}
		if got, ok := Unescape(want); got != s || !ok {
			t.Errorf("Unescape of many %q", row[1])
		}
		if Right(s + "\xff") {
			t.Errorf("Right of many %q and a byte", row[0])
		}
		if got, ok := Unescape(want + "@"); ok || got != "" {
			t.Errorf("Unescape of many %q and an @", row[1])
		}
	}
}
