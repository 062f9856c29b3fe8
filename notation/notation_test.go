package notation

import (
	"math"
	"math/big"
	"regexp"
	"slices"
	"strconv"
	"strings"
	"testing"
	"unicode/utf8"
	"unsafe"

	"deckle/api"
	"deckle/array"
	"deckle/probe"
	"deckle/tight"
)

const most = 1 << 20

// Some numbers: one that is not whole, and one that is, beyond the ints.
var (
	half   = api.Dec{Man: 15, Exp: -1}
	beyond = api.Dec{Man: 1, Exp: 19}
)

// The arrays of one node, and those with kids.
var (
	bools, ints, chars, decs = probe.Bools, probe.Ints, probe.Chars, probe.Decs
	nest, wrapped            = probe.Nest, probe.Wrapped
)

// of is a row of count numbers, all of them n.
func of(count, n int) []int { return slices.Repeat([]int{n}, count) }

// deep is text inside as many brackets as wrapped has nodes of no Shape.
func deep(count int, text string) string {
	return strings.Repeat("⊂(", count) + text + strings.Repeat(")", count)
}

// brief is a, or how long it is where it is too long to be told.
func brief(a []api.Node) any {
	if len(a) > 40 || array.Items(a) > 40 {
		return [2]int{len(a), array.Items(a)}
	}
	return a
}

// briefText is s, or its front and how long it is.
func briefText(s string) string {
	if len(s) > 200 {
		return strconv.Quote(s[:100]) + ".. of " + strconv.Itoa(len(s))
	}
	return strconv.Quote(s)
}

// modelWhole is a whole number's text.
func modelWhole(n int) string {
	return strings.Replace(strconv.Itoa(n), "-", "¯", 1)
}

// modelDec is a right Dec's text: where Exp is 0 Man's.
func modelDec(d api.Dec) string {
	if d.Exp == 0 {
		return modelWhole(d.Man)
	}
	return modelWhole(d.Man) + "E" + modelWhole(d.Exp)
}

// modelRow is the texts that text tells of a row, with a space between two.
func modelRow[T any](l []T, text func(T) string) string {
	var texts []string
	for _, x := range l {
		texts = append(texts, text(x))
	}
	return strings.Join(texts, " ")
}

// modelQuoted is signs in quotes.
func modelQuoted(l []int) string {
	inner := ""
	for _, n := range l {
		inner += string(rune(n))
	}
	return "'" + strings.ReplaceAll(inner, "'", "''") + "'"
}

// modelText is the notation of a right array as the chapter's words tell it, kid by kid.
func modelText(a []api.Node) string {
	first := a[0]
	front := ""
	if len(first.Shape) > 0 {
		front = modelRow(first.Shape, modelWhole) + "⍴"
	}
	switch {
	case first.Kind == api.KindChar:
		return front + modelQuoted(first.Ints)
	case first.Kind == api.KindDec:
		return front + modelRow(first.Decs, modelDec)
	case first.Kind != api.KindNest && slices.Contains(first.Shape, 0):
		return front + "0"
	case first.Kind != api.KindNest:
		return front + modelRow(first.Ints, modelWhole)
	case front == "":
		front = "⊂"
	}
	for _, kid := range array.Kids(a) {
		front += "(" + modelText(kid) + ")"
	}
	return front
}

// The model's forms of a number: all that may be read as one, and what a whole number looks like.
var (
	shaped0 = regexp.MustCompile(`(?s)^([0-9E¯]+(?: [0-9E¯]+)*)⍴(.*)$`)
	row0    = regexp.MustCompile(`^[0-9E¯]+(?: [0-9E¯]+)*$`)
	number0 = regexp.MustCompile(`^(¯?)([0-9]+)(?:E(¯?)([0-9]+))?$`)
	signs0  = regexp.MustCompile(`(?s)^'(?:[^']|'')*'$`)
)

// modelNumber is the number that a text is, in whatever form, with Man as great as can be told.
func modelNumber(s string) (api.Dec, bool) {
	m := number0.FindStringSubmatch(s)
	if m == nil {
		return api.Dec{}, false
	}
	man, _ := new(big.Int).SetString(strings.Replace(m[1], "¯", "-", 1)+m[2], 10)
	exp := big.NewInt(0)
	if m[4] != "" {
		exp, _ = new(big.Int).SetString(strings.Replace(m[3], "¯", "-", 1)+m[4], 10)
	}
	for ten := big.NewInt(10); man.Sign() != 0 && new(big.Int).Rem(man, ten).Sign() == 0; exp.Add(exp, big.NewInt(1)) {
		man.Quo(man, ten)
	}
	if !man.IsInt64() || !exp.IsInt64() {
		return api.Dec{}, false
	}
	return api.Dec{Man: int(man.Int64()), Exp: int(exp.Int64())}, true
}

// modelNumbers is the node of the numbers that a text is.
func modelNumbers(s []int, text string) []api.Node {
	if !row0.MatchString(text) {
		return nil
	}
	var l []api.Dec
	for _, one := range strings.Split(text, " ") {
		d, ok := modelNumber(one)
		if !ok {
			return nil
		}
		l = append(l, d)
	}
	if text == "0" && slices.Contains(s, 0) {
		return ints(s)
	}
	a, _ := tight.Make(decs(s, l...))
	return a
}

// modelSplit is what stands in each of the brackets of which text is, one behind the other; each ' turns what is in quotes.
func modelSplit(text string) ([]string, bool) {
	var l []string
	depth, start, quotes := 0, 0, false
	for k := range len(text) {
		switch b := text[k]; {
		case b == '\'':
			quotes = !quotes
		case quotes:
		case b == '(':
			depth++
			if depth == 1 {
				start = k + 1
			}
		case b == ')':
			depth--
			if depth == 0 {
				l = append(l, text[start:k])
			}
		}
		if depth < 1 && text[k] != ')' || depth < 0 {
			return nil, false
		}
	}
	return l, depth == 0 && !quotes && len(l) > 0
}

// modelKids is the array of these kids, each in brackets.
func modelKids(s []int, text string, depth int) []api.Node {
	texts, ok := modelSplit(text)
	if !ok || depth == 16 {
		return nil
	}
	a := nest(s)
	for _, one := range texts {
		kid := modelRead(one, depth+1)
		if kid == nil {
			return nil
		}
		a = append(a, kid...)
	}
	return a
}

// modelSigns is the node of the signs that a text is.
func modelSigns(s []int, text string) []api.Node {
	if !signs0.MatchString(text) || !utf8.ValidString(text) {
		return nil
	}
	a := chars(s)
	for _, sign := range strings.ReplaceAll(text[1:len(text)-1], "''", "'") {
		a[0].Ints = append(a[0].Ints, int(sign))
	}
	return a
}

// modelBody is the array of that shape of which text is what stands behind the shape.
func modelBody(s []int, text string, depth int) []api.Node {
	switch {
	case strings.HasPrefix(text, "("):
		return modelKids(s, text, depth)
	case strings.HasPrefix(text, "'"):
		return modelSigns(s, text)
	}
	return modelNumbers(s, text)
}

// modelRead is an array, tight or not, that s may stand for, taken in pieces from outside.
func modelRead(s string, depth int) []api.Node {
	if kid, ok := strings.CutPrefix(s, "⊂"); ok {
		return modelKids(nil, kid, depth)
	}
	m := shaped0.FindStringSubmatch(s)
	if m == nil {
		if strings.HasPrefix(s, "(") {
			return nil
		}
		return modelBody(nil, s, depth)
	}
	var shape []int
	for _, one := range strings.Split(m[1], " ") {
		n, err := strconv.Atoi(one)
		if err != nil {
			return nil
		}
		shape = append(shape, n)
	}
	return modelBody(shape, m[2], depth)
}

// modelParse is Parse.
func modelParse(s string) ([]api.Node, bool) {
	a := modelRead(s, 1)
	if a == nil || !tight.Right(a) || modelText(a) != s {
		return nil, false
	}
	return a, true
}

// checkText tells that Text of a is want.
func checkText(t *testing.T, a []api.Node, want string) {
	t.Helper()
	if s := Text(a); s != want {
		t.Errorf("Text of %v: %s, not %s", brief(a), briefText(s), briefText(want))
	}
}

// checkRead tells that Parse of s is want.
func checkRead(t *testing.T, s string, want []api.Node) {
	t.Helper()
	if a, ok := Parse(s); !ok || !probe.Alike(a, want) {
		t.Errorf("Parse of %s: %v, %v, not %v", briefText(s), brief(a), ok, brief(want))
	}
}

// checkBoth tells that a and s are each other's (P14.4), and that nothing may stand beside s.
func checkBoth(t *testing.T, a []api.Node, s string) {
	t.Helper()
	checkText(t, a, s)
	checkRead(t, s, a)
	if len(s) < 200 {
		for _, beside := range []string{" ", "x", ")", "(", "'", "⍴", "⊂", "¯", "E", "\x80", "\xe2", "\xe2\x8d", "\x00", "\n", "()", "''", "(5)", "1⍴5", " " + s} {
			checkNone(t, s+beside)
		}
		for _, ahead := range []string{" ", "x", ")", "(", "⍴", "\x80", "\xe2", "\x00", "\n", "()"} {
			checkNone(t, ahead+s)
		}
		checkNone(t, "("+s+")")
		checkModel(t, s[1:])
		checkModel(t, s[:len(s)-1])
		checkModel(t, s+s)
	}
}

// checkNone tells that s is no notation.
func checkNone(t *testing.T, s string) {
	t.Helper()
	if a, ok := Parse(s); ok || a != nil {
		t.Errorf("Parse of %s: %v, %v", briefText(s), brief(a), ok)
	}
}

// checkModel holds Parse of s against the model, and Text of what it answers against s.
func checkModel(t *testing.T, s string) bool {
	t.Helper()
	want, is := modelParse(s)
	a, ok := Parse(s)
	if ok != is || !probe.Alike(a, want) {
		t.Errorf("Parse of %s: %v, %v, not %v, %v", briefText(s), brief(a), ok, brief(want), is)
	}
	if ok && Text(a) != s {
		t.Errorf("Text of what %s is: %s", briefText(s), briefText(Text(a)))
	}
	return is
}

func TestExample(t *testing.T) { // P14.1, P14.2, P14.4
	checkBoth(t, nest([]int{2}, chars([]int{2}, 'a', 'b'), ints(nil, 3)), "2⍴(2⍴'ab')(3)")
}

// alone are arrays of one item with a Shape of none, by their notations; what they are told as behind a shape, too.
func alone() map[string][]api.Node {
	return map[string][]api.Node{
		"0": bools(nil, 0), "1": bools(nil, 1), "2": ints(nil, 2), "¯1": ints(nil, -1), "¯2": ints(nil, -2), "10": ints(nil, 10), "¯10": ints(nil, -10), "100": ints(nil, 100), "1000000": ints(nil, 1000000),
		"¯9223372036854775808": ints(nil, math.MinInt), "9223372036854775807": ints(nil, math.MaxInt), "9223372036854775800": ints(nil, math.MaxInt-7), "1000000000000000000": ints(nil, 1000000000000000000),
		"15E¯1": decs(nil, half), "¯15E¯1": decs(nil, api.Dec{Man: -15, Exp: -1}), "1E19": decs(nil, beyond), "¯1E19": decs(nil, api.Dec{Man: -1, Exp: 19}), "1E¯32768": decs(nil, api.Dec{Man: 1, Exp: -32768}), "9223372036854775807E32767": decs(nil, api.Dec{Man: math.MaxInt, Exp: 32767}), "¯9223372036854775808E¯32768": decs(nil, api.Dec{Man: math.MinInt, Exp: -32768}), "922337203685477581E1": decs(nil, api.Dec{Man: 922337203685477581, Exp: 1}),
		"'a'": chars(nil, 'a'), "''''": chars(nil, '\''), "' '": chars(nil, ' '), "'0'": chars(nil, '0'), "')'": chars(nil, ')'), "'('": chars(nil, '('), "'\x00'": chars(nil, 0), "'\n'": chars(nil, '\n'), "'\x7f'": chars(nil, 0x7f), "'\u0080'": chars(nil, 0x80), "'é'": chars(nil, 0xe9), "'¯'": chars(nil, 0xaf), "'\u07ff'": chars(nil, 0x7ff), "'⍴'": chars(nil, 0x2374), "'⊂'": chars(nil, 0x2282), "'\ufffd'": chars(nil, 0xfffd), "'\U0001f600'": chars(nil, 0x1f600), "'\U0010ffff'": chars(nil, 0x10ffff),
	}
}

// TestAlone writes and reads one number of each kind, and one sign, without a shape, and with one of ones.
func TestAlone(t *testing.T) { // P14.1, P14.2, P14.4
	for s, a := range alone() {
		checkBoth(t, a, s)
		for _, shape := range [][]int{{1}, {1, 1}, of(16, 1)} {
			b := probe.Plain(a)
			b[0].Shape = shape
			checkBoth(t, b, modelRow(shape, strconv.Itoa)+"⍴"+s)
		}
		// A number or a sign alone doesn't stand in an array alone.
		checkNone(t, "⊂("+s+")")
		checkNone(t, "⊂"+s)
		checkNone(t, "1⍴("+s+")")
		checkNone(t, "2⍴("+s+")("+s+")")
		checkNone(t, "2⍴"+s)
		checkNone(t, "0⍴("+s+")")
	}
}

// TestRows writes and reads rows of one and of more, of each kind, and shapes of more numbers.
func TestRows(t *testing.T) { // P14.1, P14.2, P14.4
	two, three := []int{2}, []int{3}
	checkBoth(t, bools(three, 1, 0, 1), "3⍴1 0 1")
	checkBoth(t, bools(two, 0, 0), "2⍴0 0")
	checkBoth(t, ints(three, 1, 0, 2), "3⍴1 0 2")
	checkBoth(t, ints(three, 100, -1, 0), "3⍴100 ¯1 0")
	checkBoth(t, ints(three, math.MinInt, 7, math.MaxInt), "3⍴¯9223372036854775808 7 9223372036854775807")
	checkBoth(t, decs(three, half, api.Dec{}, api.Dec{Man: 1}), "3⍴15E¯1 0 1")
	checkBoth(t, decs(three, api.Dec{Man: 1, Exp: 2}, half, api.Dec{Man: -12}), "3⍴1E2 15E¯1 ¯12")
	checkBoth(t, decs(two, beyond, beyond), "2⍴1E19 1E19")
	checkBoth(t, chars(two, 'a', 'b'), "2⍴'ab'")
	checkBoth(t, chars(two, '\'', '\''), "2⍴''''''")
	checkBoth(t, chars(three, 'a', '\'', 'b'), "3⍴'a''b'")
	checkBoth(t, chars([]int{8}, '\'', 'a', 0xe9, 0x2374, 0x1f600, '(', ')', ' '), "8⍴'''aé⍴\U0001f600() '")
	checkBoth(t, ints([]int{2, 2}, 1, 2, 100, -4), "2 2⍴1 2 100 ¯4")
	checkBoth(t, bools([]int{1, 2, 2}, 1, 0, 0, 1), "1 2 2⍴1 0 0 1")
	checkBoth(t, chars([]int{2, 1, 2}, 'a', 'b', 'c', 'd'), "2 1 2⍴'abcd'")
	checkBoth(t, decs([]int{1, 2}, half, half), "1 2⍴15E¯1 15E¯1")
	checkBoth(t, ints(append(of(15, 1), 2), 5, 6), strings.Repeat("1 ", 15)+"2⍴5 6")
	checkBoth(t, ints([]int{10}, of(10, 7)...), "10⍴7 7 7 7 7 7 7 7 7 7")
	checkBoth(t, chars([]int{100}, of(100, 'x')...), "100⍴'"+strings.Repeat("x", 100)+"'")
}

// TestNoItems writes and reads shapes with a 0 in each place.
func TestNoItems(t *testing.T) { // P14.1, P14.2, P14.4
	for _, rank := range []int{1, 2, 3, 16} {
		for k := range rank {
			for _, other := range []int{0, 1, 3, most} {
				shape := of(rank, other)
				shape[k] = 0
				text := modelRow(shape, strconv.Itoa) + "⍴"
				checkBoth(t, ints(shape), text+"0")
				checkBoth(t, chars(shape), text+"''")
				for _, wrong := range []string{"", "00", "0 0", "0 ", " 0", "1", "7", "¯0", "0E0", "0E1", "15E¯1", "''''", "'' ''", "'a'", "'", "'''", "()", "(0)", "('')", "(2⍴7 8)", "(" + text + "0)", "0''", "''0", "⍴", "⊂(2⍴7 8)", "¯", "E"} {
					checkNone(t, text+wrong)
				}
				// Arrays without items that are not tight.
				for _, a := range [][]api.Node{bools(shape), decs(shape), nest(shape)} {
					checkText(t, a, "")
				}
			}
		}
	}
}

// TestNest writes and reads arrays with kids.
func TestNest(t *testing.T) { // P14.1, P14.2, P14.4
	two, row := []int{2}, ints([]int{2}, 7, 8)
	checkBoth(t, nest(nil, row), "⊂(2⍴7 8)")
	checkBoth(t, nest(nil, chars(two, 'a', 'b')), "⊂(2⍴'ab')")
	checkBoth(t, nest(nil, bools([]int{1}, 1)), "⊂(1⍴1)")
	checkBoth(t, nest(nil, decs([]int{1}, half)), "⊂(1⍴15E¯1)")
	checkBoth(t, nest(nil, ints([]int{0})), "⊂(0⍴0)")
	checkBoth(t, nest(nil, chars([]int{0, 2})), "⊂(0 2⍴'')")
	checkBoth(t, nest([]int{1}, row), "1⍴(2⍴7 8)")
	checkBoth(t, nest([]int{1, 1}, row), "1 1⍴(2⍴7 8)")
	checkBoth(t, nest(of(16, 1), row), strings.TrimSpace(strings.Repeat("1 ", 16))+"⍴(2⍴7 8)")
	checkBoth(t, nest([]int{1}, nest(nil, row)), "1⍴(⊂(2⍴7 8))")
	checkBoth(t, nest(nil, nest([]int{1}, row)), "⊂(1⍴(2⍴7 8))")
	checkBoth(t, nest(two, row, chars(nil, 'a')), "2⍴(2⍴7 8)('a')")
	checkBoth(t, nest(two, chars(nil, 'a'), ints(nil, 5)), "2⍴('a')(5)")
	checkBoth(t, nest(two, bools(nil, 1), chars(nil, '1')), "2⍴(1)('1')")
	checkBoth(t, nest(two, ints([]int{0}), chars([]int{0})), "2⍴(0⍴0)(0⍴'')")
	checkBoth(t, nest([]int{3}, decs(nil, half), chars(nil, ')'), ints(nil, -100)), "3⍴(15E¯1)(')')(¯100)")
	checkBoth(t, nest([]int{2, 2}, chars(nil, '\''), bools(nil, 0), decs(two, half, beyond), chars(two, '(', '\'')), "2 2⍴('''')(0)(2⍴15E¯1 1E19)(2⍴'(''')")
	checkBoth(t, nest([]int{3}, nest(two, chars(nil, 1), ints(nil, 2)), nest(nil, row), bools(nil, 1)), "3⍴(2⍴('\x01')(2))(⊂(2⍴7 8))(1)")
	checkBoth(t, nest([]int{1, 2}, ints([]int{1}, 7), nest([]int{1}, row)), "1 2⍴(1⍴7)(1⍴(2⍴7 8))")
	checkBoth(t, nest([]int{4}, chars(nil, 'a'), chars(nil, 'b'), chars(nil, 'c'), ints(nil, 9)), "4⍴('a')('b')('c')(9)")
	checkBoth(t, nest([]int{4}, ints(nil, 9), bools(nil, 1), decs(nil, half), chars(nil, 'a')), "4⍴(9)(1)(15E¯1)('a')")
}

// TestDeep writes and reads arrays that are deep, and such as are too deep.
func TestDeep(t *testing.T) { // P14.1, P14.2, P14.4
	pair := nest([]int{2}, chars(nil, 'a'), ints(nil, 5))
	for count := range 16 {
		checkBoth(t, wrapped(count, nil, ints([]int{1}, 5)), deep(count, "1⍴5"))
		checkBoth(t, wrapped(count, []int{1}, chars([]int{0})), strings.Repeat("1⍴(", count)+"0⍴''"+strings.Repeat(")", count))
		if count < 15 {
			checkBoth(t, wrapped(count, nil, pair), deep(count, "2⍴('a')(5)"))
		}
	}
	checkText(t, wrapped(15, nil, pair), "")
	checkNone(t, deep(15, "2⍴('a')(5)"))
	checkNone(t, "2⍴(1)("+deep(15, "1⍴5")+")")
	for _, count := range []int{16, 17, 18, 100, 100000, 3000000} {
		checkNone(t, deep(count, "1⍴5"))
		checkNone(t, strings.Repeat("1⍴(", count)+"1⍴5"+strings.Repeat(")", count))
		checkNone(t, strings.Repeat("⊂(", count))
		checkNone(t, strings.Repeat("⊂", count))
		checkNone(t, strings.Repeat("(", count))
		checkNone(t, strings.Repeat(")", count))
		checkNone(t, strings.Repeat("2⍴('a')(", count))
		checkNone(t, strings.Repeat("(", count)+"5"+strings.Repeat(")", count))
	}
	checkText(t, wrapped(16, nil, ints([]int{1}, 5)), "")
	checkText(t, wrapped(1000, nil, ints([]int{1}, 5)), "")
}

// wrongNodes are nodes that are not right, each by another rule, and one right one.
func wrongNodes() []api.Node {
	return []api.Node{
		{}, {Kind: 6, Ints: []int{1}}, {Kind: -1}, {Kind: api.KindInt}, {Kind: api.KindInt, Ints: []int{1, 2}}, {Kind: api.KindInt, Ints: []int{5}, Decs: []api.Dec{{}}}, {Kind: api.KindInt, Shape: []int{-1}}, {Kind: api.KindInt, Shape: []int{most + 1}}, {Kind: api.KindInt, Shape: of(17, 1), Ints: []int{5}}, {Kind: api.KindInt, Shape: []int{most, 2}},
		{Kind: api.KindBool, Ints: []int{2}}, {Kind: api.KindBool, Ints: []int{-1}}, {Kind: api.KindChar, Ints: []int{-1}}, {Kind: api.KindChar, Ints: []int{0xd800}}, {Kind: api.KindChar, Ints: []int{0xdfff}}, {Kind: api.KindChar, Ints: []int{0x110000}}, {Kind: api.KindChar},
		{Kind: api.KindDec, Decs: []api.Dec{{Man: 10}}}, {Kind: api.KindDec, Decs: []api.Dec{{Exp: 1}}}, {Kind: api.KindDec, Decs: []api.Dec{{Man: 1, Exp: 32768}}}, {Kind: api.KindDec, Ints: []int{1}}, {Kind: api.KindDec, Decs: []api.Dec{half, half}}, {Kind: api.KindNest, Shape: []int{0}, Ints: []int{1}}, {Kind: api.KindNest, Shape: []int{0}, Decs: []api.Dec{{}}}, {Kind: api.KindNest, Shape: []int{-1}},
	}
}

// TestNoArray writes rows that are no right arrays: they have no notation.
func TestNoArray(t *testing.T) { // P14.1
	for _, a := range [][]api.Node{nil, {}, make([]api.Node, 0, 4), ints(nil, 5)[:0], make([]api.Node, 3), nest(nil), nest([]int{1}), slices.Repeat(nest(nil), 1000)} {
		checkText(t, a, "")
	}
	row := ints([]int{2}, 7, 8)
	for _, a := range [][]api.Node{ints(nil, 7), nest(nil, row), nest([]int{3}, row, chars(nil, 'a'), decs(nil, half)), nest([]int{2, 1}, nest(nil, nest(nil, row)), nest([]int{1}, row))} {
		checkText(t, a, modelText(a))
		for k := range a {
			checkText(t, a[:k], "")
			for _, wrong := range wrongNodes() {
				b := slices.Clone(a)
				b[k] = wrong
				checkText(t, b, "")
			}
		}
		for _, behind := range [][]api.Node{a, ints(nil, 5), nest(nil), make([]api.Node, 1), row} {
			checkText(t, slices.Concat(a, behind), "")
		}
	}
}

// TestNotTight writes right arrays that are not their own tight form, alone and as kids: they have no notation.
func TestNotTight(t *testing.T) { // P14.1
	two := []int{2}
	for _, a := range [][]api.Node{
		ints(nil, 0), ints(nil, 1), ints(two, 0, 1), bools([]int{0}), decs([]int{0}), nest([]int{0}), nest([]int{2, 0}), decs(nil, api.Dec{}), decs(nil, api.Dec{Man: 7}), decs(two, api.Dec{Man: 1, Exp: 2}, api.Dec{Man: -5}), decs(two, api.Dec{Man: 1}, api.Dec{}),
		nest(nil, ints(nil, 5)), nest(nil, chars(nil, 'a')), nest(two, ints(nil, 3), ints(nil, 1)), nest(two, bools(nil, 0), decs(nil, half)), nest(two, chars(nil, 'a'), chars(nil, '\'')), nest([]int{1}, bools(nil, 1)),
	} {
		checkText(t, a, "")
		checkText(t, nest(nil, a), "")
		checkText(t, nest(two, a, ints(two, 7, 8)), "")
		checkText(t, nest(two, ints(two, 7, 8), a), "")
		checkText(t, nest([]int{3}, chars(nil, 'a'), nest(nil, a), bools(nil, 1)), "")
		form, _ := tight.Make(a)
		checkText(t, form, modelText(form))
	}
}

// TestNone reads texts that are no notation.
func TestNone(t *testing.T) { // P14.2
	for _, s := range []string{
		// Numbers without a shape, and in another form than their own.
		"", " ", "  ", "1 2", "0 1", "15E¯1 2", "01", "00", "007", "¯0", "¯01", "-1", "−1", "+1", "1.5", "1E2", "1E0", "10E1", "15E-1", "15E¯01", "15E01", "0E1", "1E32768", "1E¯32769", "10E19", "9223372036854775808", "¯9223372036854775809", "18446744073709551616", "9223372036854775808E1", "E", "E1", "¯", "1E", "1¯", "¯¯1", "1E1E1", "1,2", "½", "x", "a",
		// A row's numbers in another form: of a row that is whole, and of one that is not.
		"2⍴1E2 3", "2⍴3 1E2", "1⍴1E2", "2⍴100 15E¯1", "2⍴15E¯1 100", "2⍴15E¯1 01", "2⍴15E¯1 10", "3⍴1E19 1E19 10", "2⍴01 1", "2⍴1 ¯0", "2⍴1E0 2", "2⍴1 9223372036854775808", "2⍴-1 1", "2⍴1 E",
		// Spaces.
		" 5", "5 ", "2 ⍴1 2", "2⍴ 1 2", "2⍴1  2", "2⍴1 2 ", " 2⍴1 2", "2  2⍴1 2 3 4", " ⍴5", "⍴ 5", "1⍴ 'a'", "1⍴'a' ", "1 ⍴'a'", "⊂ (2⍴7 8)", "⊂( 2⍴7 8)", "⊂(2⍴7 8 )", "⊂(2⍴7 8) ", " ⊂(2⍴7 8)", "2⍴('a') (5)", "2⍴ ('a')(5)", "2⍴('a')(5) ", "2⍴( 'a')(5)", "2⍴('a' )(5)", "2⍴('a')( 5)", "2⍴('a')(5 )", "0⍴ 0", "0⍴0 ", "0 ⍴0", "0⍴ ''", "0⍴'' ", "2\u00a0⍴1 2", "2⍴1\t2", "2⍴1\n2",
		// The shape.
		"⍴", "⍴1", "⍴0", "⍴''", "⍴'a'", "⍴(2⍴7 8)", "1⍴", "0⍴", "2⍴", "2 2⍴", "1⍴⍴1", "2⍴⍴1 2", "1⍴1⍴1", "⍴1⍴1", "1⍴1⍴", "1ρ1", "1 1", "2 1 2", "1⌿1", "1\xe2\x8d1", "1\xe2\x8d\xb51", "1\x8d\xb41", "¯1⍴1", "¯1⍴0", "¯1⍴''", "¯1⍴", "2 ¯1⍴1 2", "¯1 ¯1⍴1", "¯2 ¯1⍴7 8", "01⍴1", "02⍴1 2", "00⍴0", "¯0⍴0", "1E0⍴1", "1E1⍴7 7 7 7 7 7 7 7 7 7", "15E¯1⍴1", "15E¯1⍴0", "2 15E¯1⍴1 2", "5E¯1 2⍴1", "1048577⍴0", "1048577⍴''", "0 1048577⍴0", "9223372036854775808⍴0", "0 9223372036854775808⍴0", "1E19⍴0", "0 1E19⍴0", "1048576 2⍴0", "1024 1025⍴''", "'a'⍴1", "(1)⍴1", "1,1⍴1", "0E1⍴0", "1 0E1⍴0",
		strings.Repeat("1 ", 16) + "1⍴5", strings.Repeat("1 ", 16) + "1⍴'a'", strings.Repeat("1 ", 16) + "0⍴0", strings.Repeat("1 ", 16) + "1⍴(2⍴7 8)", strings.Repeat("0 ", 16) + "0⍴''", strings.Repeat("1 ", 99) + "1⍴5",
		// As many items as the shape counts.
		"1⍴1 2", "2⍴1", "2⍴1 2 3", "2 2⍴1 2 3", "2 2⍴1 2 3 4 5", "3⍴15E¯1 1", "3⍴15E¯1 1 1 1", "1⍴''", "2⍴'a'", "2⍴'abc'", "1⍴'ab'", "1 2⍴'a'", "3⍴'é'", "2⍴''''", "1⍴'''a'", "2⍴(2⍴'ab')", "2⍴(2⍴'ab')(3)(4)", "1⍴(2⍴'ab')(3)", "2 2⍴('a')(1)('b')", "2 2⍴('a')(1)('b')(2)('c')", "2⍴()", "1⍴()", "0⍴()", "2⍴('a')()", "2⍴()('a')",
		// Signs.
		"''", "'ab'", "'", "'''", "'''''", "''''''", "'a", "a'", "'a''", "''a'", "'a'b'", "'a''b'", "2⍴'ab", "2⍴'a'b'", "2⍴'a'b", "2⍴'a''", "2⍴ab", "2⍴\"ab\"", "'\xff'", "'\x80'", "'\xed\xa0\x80'", "'\xc0\x80'", "'\xe2\x8d'", "'\xf4\x90\x80\x80'", "2⍴'a\xff'", "2⍴'\xffa'", "1⍴'\xc3'", "1⍴'\xc3\xa9\xa9'", "1⍴'\xef\xbf'", "2⍴'a''b'", "1⍴'''", "2⍴'''''", "2⍴'a' 'b'", "2⍴'a''b",
		// Brackets.
		"()", "(5)", "('a')", "(2⍴7 8)", "⊂", "⊂5", "⊂'a'", "⊂()", "⊂(", "⊂)", "⊂2⍴7 8", "⊂(2⍴7 8", "⊂2⍴7 8)", "⊂((2⍴7 8))", "⊂(2⍴7 8))", "⊂((2⍴7 8)", "⊂(5)", "⊂('a')", "⊂(15E¯1)", "⊂(2⍴7 8)(2⍴7 8)", "⊂(2⍴7 8)(5)", "⊂⊂(2⍴7 8)", "⊂(⊂(5))", "⊂(⊂('a'))", "⊂⍴(2⍴7 8)", "1⍴⊂(2⍴7 8)", "1⊂(2⍴7 8)", "⊂1⍴(2⍴7 8)", "⊂(2⍴7 8)x", "⊂[2⍴7 8]", "⊂{2⍴7 8}", "2⍴(2⍴'ab'(3)", "2⍴(2⍴'ab')(3", "2⍴2⍴'ab')(3)", "2⍴(2⍴'ab')3)", "2⍴(2⍴'ab')3", "2⍴(2⍴'ab')(3))", "2⍴((2⍴'ab')(3))", "2⍴(2⍴'ab')((3))", "2⍴(2⍴'ab'))(3)", "(2⍴(2⍴'ab')(3))", "2⍴(2⍴'ab')'a'", "2⍴'a'(3)", "2⍴3('a')", "2⍴('a')(5)(", "2⍴('a')(5)()",
		// Kids that would together be one row, or that are none.
		"2⍴(1)(2)", "2⍴(15E¯1)(2)", "1⍴(5)", "1⍴('a')", "2⍴('a')('b')", "2⍴('a')('''')", "2 2⍴(1)(0)(1)(0)", "2⍴(2⍴(1)(2))(3)", "2⍴(1⍴('a'))(3)", "2⍴('ab')(3)", "2⍴('')(3)", "2⍴('a')(5 6)", "2⍴('a')(1E2)", "2⍴('a')(01)", "2⍴(0⍴1)(3)", "2⍴(0⍴00)(3)", "2⍴(1⍴'ab')(3)", "2⍴(01⍴7)(3)", "2⍴(¯1⍴7)(3)", "2⍴('a')(5 )", "2⍴('a')(x)",
		// A second notation, and what is none, behind.
		"5(5)", "5'a'", "'a'5", "'a''b'", "'a'('b')", "5⊂(2⍴7 8)", "1⍴5⍴", "5)", "'a')", "2⍴7 8)", "5\x00", "5\xff", "5¯", "5E", "5⍴", "5⊂", "5\xe2\x8d", "5\xc2", "2⍴7 8\xc2", "0⍴0\xff", "0⍴''\xff", "'a'\xff", "⊂(2⍴7 8)\xff", "\xff", "\xc2\xaf", "\xaf1", "\xc21", "\xe2\x8d\xb4", "\xe2\x8a\x82", "\xe2\x8a\x82(", "\xe2(2⍴7 8)", "\x8a\x82(2⍴7 8)",
	} {
		checkNone(t, s)
		checkNone(t, "⊂("+s+")")
		checkNone(t, "2⍴(2⍴7 8)("+s+")")
		if _, ok := modelParse(s); ok {
			t.Errorf("the model reads %q", s)
		}
	}
}

// TestSpaces lays a space at each place of notations: they are none any more, where no sign in quotes is.
func TestSpaces(t *testing.T) { // P14.2
	for _, s := range []string{"5", "¯100", "15E¯1", "'a'", "3⍴1 0 1", "2 2⍴1 2 100 ¯4", "2⍴15E¯1 1E2", "3⍴'a''b'", "0⍴0", "3 0⍴''", "⊂(2⍴'ab')", "2⍴(2⍴'ab')(5)", "1 2⍴(1⍴7)(1⍴(2⍴7 8))", "3⍴('''')(15E¯1)(⊂(0⍴0))"} {
		for k := range len(s) + 1 {
			for _, sign := range []string{" ", "  ", "0", "1", "⍴", "⊂", "(", ")", "()", "'", "''", "a", "E", "¯", "\xff", "\xe2", "\x00"} {
				checkModel(t, s[:k]+sign+s[k:])
			}
			checkModel(t, s[:k])
			checkModel(t, s[k:])
			if k < len(s) {
				checkModel(t, s[:k]+s[k+1:])
				for b := range 256 {
					checkModel(t, s[:k]+string([]byte{byte(b)})+s[k+1:])
				}
			}
		}
	}
}

// TestKinds reads rows as the kind that their tight form has.
func TestKinds(t *testing.T) { // P14.2
	for s, kind := range map[string]int{"0": 1, "1": 1, "2": 2, "¯1": 2, "2⍴0 1": 1, "2⍴0 2": 2, "2⍴1 ¯1": 2, "2⍴0 15E¯1": 4, "2⍴15E¯1 1": 4, "2⍴1 1E19": 4, "2⍴1E18 1E19": 4, "2⍴1000000000000000000 1": 2, "1⍴'0'": 3, "0⍴0": 2, "0⍴''": 3, "2⍴('a')(1)": 5, "⊂(2⍴0 1)": 5} {
		a, ok := Parse(s)
		if !ok || a[0].Kind != kind {
			t.Errorf("Parse of %q: %v, %v, not of kind %d", s, a, ok, kind)
		}
		checkModel(t, s)
	}
}

// TestAllTexts holds Parse against the model, of all short texts of telling signs and pieces.
func TestAllTexts(t *testing.T) { // P14.2, P14.4
	count := 0
	see := func(l []string) {
		if checkModel(t, strings.Join(l, "")) {
			count++
		}
	}
	probe.Walk(nil, []string{"0", "1", "2", " ", "E", "¯", "⍴", "⊂", "(", ")", "'", "a"}, 5, see)
	probe.Walk(nil, []string{"0", "1", "2", " ", "⍴", "'"}, 7, see)
	probe.Walk(nil, []string{"1⍴", "⊂", "(", ")", "0", "'a'"}, 7, see)
	probe.Walk(nil, []string{"2⍴", "0⍴", "(5)", "('a')", "⊂(", "('", "')", "(", ")", "''", "2 2⍴", "7 8"}, 5, see)
	if count < 300 {
		t.Errorf("only %d notations", count)
	}
}

// TestAllArrays writes and reads all short rows of telling nodes.
func TestAllArrays(t *testing.T) { // P14.1, P14.2, P14.4
	count := 0
	see := func(a []api.Node) {
		if !tight.Right(a) {
			checkText(t, a, "")
			return
		}
		count++
		checkText(t, a, modelText(a))
		checkRead(t, modelText(a), a)
	}
	probe.Walk(nil, slices.Concat(bools(nil, 1), ints(nil, 7), chars(nil, '\''), decs(nil, half), ints([]int{1}, 100), chars([]int{0}), nest(nil), nest([]int{2})), 5, see)
	probe.Walk(nil, slices.Concat(ints([]int{0}), chars(nil, ')'), nest(nil), nest([]int{2, 1}), nest([]int{3})), 7, see)
	if count < 1000 {
		t.Errorf("only %d tight arrays", count)
	}
}

// TestEachByte reads each byte, and each two, alone and in quotes.
func TestEachByte(t *testing.T) { // P14.2
	for b := range 256 {
		one := string([]byte{byte(b)})
		for _, s := range []string{one, "'" + one + "'", "1⍴" + one, "1⍴'" + one + "'", one + "⍴7", "⊂(1⍴'" + one + "')", "2⍴(" + one + ")('a')", "2⍴(7)('" + one + "')"} {
			checkModel(t, s)
		}
		for c := range 256 {
			two := one + string([]byte{byte(c)})
			checkModel(t, "1⍴'"+two+"'")
			checkModel(t, "2⍴'"+two+"'")
			checkModel(t, two)
		}
	}
}

// TestLong writes and reads long rows, and many kids; in reasonable time.
func TestLong(t *testing.T) { // P14.1, P14.2, P14.4
	all, text := []int{most}, strconv.Itoa(most)+"⍴"
	repeat := func(one string) string { return strings.TrimSuffix(strings.Repeat(one+" ", most), " ") }
	checkBoth(t, bools(all, of(most, 1)...), text+repeat("1"))
	checkBoth(t, ints([]int{1024, 1024}, of(most, -100)...), "1024 1024⍴"+repeat("¯100"))
	checkBoth(t, decs([]int{100000}, slices.Repeat([]api.Dec{half}, 100000)...), "100000⍴"+strings.Repeat("15E¯1 ", 99999)+"15E¯1")
	checkBoth(t, chars(all, of(most, '\'')...), text+"'"+strings.Repeat("''", most)+"'")
	checkBoth(t, chars([]int{100000}, of(100000, 0x2374)...), "100000⍴'"+strings.Repeat("⍴", 100000)+"'")
	checkNone(t, text+repeat("1")+" 1")
	checkNone(t, text+repeat("1")[2:])
	checkNone(t, "1048577⍴"+repeat("1")+" 1")
	checkNone(t, "1048577⍴'"+strings.Repeat("a", most+1)+"'")
	checkNone(t, repeat("1")+" 1⍴0")
	checkNone(t, repeat("0")+"⍴0")
	// Together one item more than there may be, and as many as there may be.
	checkNone(t, "⊂("+text+repeat("7")+")")
	checkBoth(t, nest(nil, ints([]int{most - 1}, of(most-1, 7)...)), "⊂("+strconv.Itoa(most-1)+"⍴"+repeat("7")[2:]+")")
	many := most/2 - 1
	kids, row := slices.Repeat(slices.Concat(chars(nil, 'a'), ints(nil, 7)), many/2), strings.Repeat("('a')(7)", many/2)
	checkBoth(t, nest([]int{many}, kids, ints([]int{2}, 7, 8)), strconv.Itoa(many)+"⍴"+row+"(2⍴7 8)")
	checkNone(t, strconv.Itoa(many+1)+"⍴"+row+"(2⍴7 8)(9)")
	checkNone(t, strconv.Itoa(many)+"⍴"+row+"(4⍴7 8 9 8)")
	checkBoth(t, nest([]int{many}, kids, ints([]int{3}, 7, 8, 9)), strconv.Itoa(many)+"⍴"+row+"(3⍴7 8 9)")
	empty := slices.Repeat(slices.Concat(chars([]int{0}), ints([]int{0, 3})), most/2)
	checkBoth(t, nest(all, empty), text+strings.Repeat("(0⍴'')(0 3⍴0)", most/2))
	checkNone(t, text+strings.Repeat("(0⍴'')(0 3⍴0)", most/2)[9:])
	checkNone(t, text+strings.Repeat("(0⍴'')(0 3⍴0)", most/2)+"(0⍴0)")
}

// samples are tight arrays of each kind.
func samples() [][]api.Node {
	two := []int{2}
	return [][]api.Node{
		bools(nil, 1), ints(nil, 7), chars(nil, 'a'), decs(nil, half), bools(two, 0, 1), ints(two, 3, 4), chars(two, 1, '\''), decs(two, half, beyond), ints([]int{0, 4}), chars([]int{3, 0}), nest(nil, ints(two, 7, 8)), nest(two, chars(nil, 'a'), ints(nil, 5)), nest(two, ints(two, 8, 9), decs(two, half, beyond)), nest([]int{2, 1}, nest(nil, ints(two, 4, 5)), nest(two, chars(two, 5, 6), bools(nil, 0))), wrapped(15, nil, ints(two, 7, 8)), wrapped(15, []int{1, 1}, chars(two, 'x', 'y')),
	}
}

// TestUnchanged: Text changes neither an array nor its spare room, whether it is tight or not, and keeps none of it.
func TestUnchanged(t *testing.T) { // P14.3
	for _, was := range slices.Concat(samples(), [][]api.Node{nil, ints(nil, 1), nest(nil, ints(nil, 7)), nest([]int{2}, ints(nil, 7)), nest([]int{0}), decs([]int{2}, api.Dec{}, api.Dec{Man: 1})}) {
		a := probe.Roomy(was)
		all := probe.Snapshot(a)
		s := Text(a)
		want := strings.Clone(s)
		if !probe.Alike(probe.Snapshot(a), all) || len(a) != len(was) {
			t.Errorf("Text changed %v", was)
		}
		probe.Turn(a)
		if s != want || Text(was) != want {
			t.Errorf("turning %v turned its text: %q, %q, not %q", was, s, Text(was), want)
		}
	}
}

// TestNewMemory: Parse keeps nothing of a text, and no list that it answers shares memory with another one.
func TestNewMemory(t *testing.T) { // P14.3
	for _, want := range samples() {
		bytes := []byte(Text(want))
		first, _ := Parse(unsafe.String(&bytes[0], len(bytes)))
		if string(bytes) != Text(want) {
			t.Errorf("Parse changed %q", Text(want))
		}
		probe.Fill(bytes, '#')
		if !probe.Alike(first, want) {
			t.Errorf("turning the text turned what Parse answered: %v, not %v", first, want)
		}
		second, _ := Parse(Text(want))
		if !probe.Apart(probe.Plain(want), first, second) {
			t.Errorf("Parse of %q shares memory", Text(want))
		}
		probe.Turn(first)
		third, ok := Parse(Text(want))
		if !ok || !probe.Alike(second, want) || !probe.Alike(third, want) {
			t.Errorf("turning what Parse of %q answered turned what it answers", Text(want))
		}
	}
}

// TestEmptyLists: an empty list is the same as a nil one (W5).
func TestEmptyLists(t *testing.T) { // P14.1
	for _, was := range samples() {
		a := probe.Plain(was)
		for k, n := range a {
			a[k] = api.Node{Kind: n.Kind, Shape: append([]int{}, n.Shape...), Ints: append([]int{}, n.Ints...), Decs: append([]api.Dec{}, n.Decs...)}
		}
		checkText(t, a, modelText(was))
	}
}
