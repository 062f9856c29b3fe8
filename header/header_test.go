package header

import (
	"regexp"
	"slices"
	"strconv"
	"strings"
	"testing"
	"unsafe"

	"deckle/api"
	"deckle/probe"
)

// The places of a header's names, as the tests number them: those behind them are its locals.
const (
	result = iota
	left
	named
	right
	operandF
	operandG
	local
)

// list is the names of h, the locals behind the others.
func list(h api.Header) []string {
	return append([]string{h.Result, h.Left, h.Name, h.Right, h.F, h.G}, h.Locals...)
}

// build is the header of such a list, in new memory.
func build(l []string) api.Header {
	return api.Header{Result: l[result], Left: l[left], Name: l[named], Right: l[right], F: l[operandF], G: l[operandG], Locals: slices.Clone(l[local:])}
}

// with is h with another name at a place.
func with(h api.Header, place int, s string) api.Header {
	l := list(h)
	l[place] = s
	return build(l)
}

// full is a header that has all there is.
func full() api.Header {
	return api.Header{Result: "R", Left: "A", Name: "OP", Right: "B", F: "F", G: "G", Locals: []string{"I", "J", "K"}}
}

// fullText is its text.
const fullText = "R←A (F OP G) B;I;J;K"

// brief is s, or its front and how long it is.
func brief(s string) string {
	if len(s) > 100 {
		return strconv.Quote(s[:60]) + ".. of " + strconv.Itoa(len(s))
	}
	return strconv.Quote(s)
}

// tell is h, to be read.
func tell(h api.Header) string { return brief(strings.Join(list(h), "|")) }

// same tells if two headers are the same.
func same(a, b api.Header) bool { return slices.Equal(list(a), list(b)) }

// checkRight holds a right header against its text, both ways.
func checkRight(t *testing.T, h api.Header, text string) {
	t.Helper()
	if !Right(h) {
		t.Errorf("%s is right", tell(h))
	}
	if got := Text(h); got != text {
		t.Errorf("text of %s: %s, not %s", tell(h), brief(got), brief(text))
	}
	got, ok := Parse(text)
	if !ok || !same(got, h) {
		t.Errorf("%s is %s: read as %s, %v", brief(text), tell(h), tell(got), ok)
	}
}

// checkWrong holds a header that is not right.
func checkWrong(t *testing.T, h api.Header) {
	t.Helper()
	if Right(h) {
		t.Errorf("%s is not right", tell(h))
	}
	if got := Text(h); got != "" {
		t.Errorf("%s has no text: %s", tell(h), brief(got))
	}
}

// checkNone holds a text that no right header has.
func checkNone(t *testing.T, s string) {
	t.Helper()
	if h, ok := Parse(s); ok || !same(h, api.Header{}) {
		t.Errorf("%s is no header's: read as %s, %v", brief(s), tell(h), ok)
	}
}

// modelName is a name, as a pattern.
const modelName = `([A-Za-z_\x{2206}\x{2359}][A-Za-z_\x{2206}\x{2359}0-9\x{af}]{0,31})`

// The patterns of texts: without operands, and with them.
var (
	modelPlain  = regexp.MustCompile(strings.ReplaceAll(`^(?:N←)?(?:N|N N|N N N)((?:;[^;]+)*)$`, "N", modelName))
	modelOpened = regexp.MustCompile(strings.ReplaceAll(`^(?:N←)?(?:N )?\(N N(?: N)?\) N((?:;[^;]+)*)$`, "N", modelName))
	modelAlone  = regexp.MustCompile(`^` + modelName + `$`)
)

// modelRead reads a text by patterns.
func modelRead(s string) (api.Header, bool) {
	var h api.Header
	var locals string
	if g := modelPlain.FindStringSubmatch(s); g != nil {
		// At most one of the three ways to lay the arguments has groups that hold something.
		h = api.Header{Result: g[1], Left: g[5], Name: g[2] + g[3] + g[6], Right: g[4] + g[7]}
		locals = g[8]
	} else if g := modelOpened.FindStringSubmatch(s); g != nil {
		h = api.Header{Result: g[1], Left: g[2], F: g[3], Name: g[4], G: g[5], Right: g[6]}
		locals = g[7]
	} else {
		return api.Header{}, false
	}
	if locals != "" {
		h.Locals = strings.Split(locals[1:], ";")
	}
	for _, s := range h.Locals {
		if !modelAlone.MatchString(s) {
			return api.Header{}, false
		}
	}
	there := slices.DeleteFunc(list(h), func(s string) bool { return s == "" })
	slices.Sort(there)
	if len(slices.Compact(slices.Clone(there))) != len(there) {
		return api.Header{}, false
	}
	return h, true
}

// checkModel holds Parse against the model, and Text against both.
func checkModel(t *testing.T, s string) {
	t.Helper()
	want, is := modelRead(s)
	got, ok := Parse(s)
	if ok != is || !same(got, want) {
		t.Fatalf("%s: %s, %v, not %s, %v", brief(s), tell(got), ok, tell(want), is)
	}
	if is && (!Right(want) || Text(want) != s) {
		t.Fatalf("%s: %v, %s", brief(s), Right(want), brief(Text(want)))
	}
}

// badNames are texts that are neither empty nor names.
var badNames = []string{
	"1", "1A", "¯", "¯A", "⎕", "⎕IO", "⎕CT", "⎕LX", "A⎕", "⎕⎕", " ", " A", "A ", "A B", "←", "A←", "←A", "A←B", "(", ")", "(A", "A)", "(A B)", "(A)", ";", "A;", ";A", "A;B",
	"A.B", ".A", "A.", "É", "Aé", "∇A", "⍵", "α", "⍺", "∆.", "A-B", "A'", "A\n", "\nA", "A\r", "A\t", "\x00", "A\x00", "\x00A", "A\x00B",
	"\x80", "A\x80", "\xff", "A\xff", "\xffA", "\xe2", "A\xe2", "A\xe2\x88", "\xe2\x88", "\x88\x86", "A\xe2\x86", "\xe2\x86\x90", "A\xc2", "A\xaf", "\xc0\x81", "\xc1\x81", "\xed\xa0\x80", "\ufffd", "A\ufffd",
	strings.Repeat("A", 33), strings.Repeat("∆", 33), "A" + strings.Repeat("¯", 32), strings.Repeat("A", 1000),
}

// P15.1, P15.2
func TestExample(t *testing.T) {
	h := api.Header{Result: "R", Left: "A", F: "F", Name: "EACH", Right: "B", Locals: []string{"I"}}
	checkRight(t, h, "R←A (F EACH) B;I")
	checkRight(t, h, "R\xe2\x86\x90A (F EACH) B;I")
}

// P15.1, P15.2, P15.4: each set of names that need not be there.
func TestEachSet(t *testing.T) {
	// The texts of those that are right, R for Result, A for Left, B for Right, F for F, G for G: N is the name.
	texts := map[string]string{
		"": "N", "R": "R←N", "B": "N B", "RB": "R←N B", "AB": "A N B", "RAB": "R←A N B",
		"BF": "(F N) B", "RBF": "R←(F N) B", "ABF": "A (F N) B", "RABF": "R←A (F N) B",
		"BFG": "(F N G) B", "RBFG": "R←(F N G) B", "ABFG": "A (F N G) B", "RABFG": "R←A (F N G) B",
	}
	locals := map[string][]string{"": nil, ";I": {"I"}, ";I;J": {"I", "J"}, ";Z;Y;X;I;J;a;b;n": {"Z", "Y", "X", "I", "J", "a", "b", "n"}}
	count := 0
	for set := range 32 {
		l := []string{"", "", "N", "", "", ""}
		which := ""
		for k, place := range []int{result, left, right, operandF, operandG} {
			if set>>k&1 == 1 {
				l[place] = string("RABFG"[k])
				which += l[place]
			}
		}
		for behind, names := range locals {
			h := build(append(slices.Clone(l), names...))
			text, is := texts[which]
			if !is {
				checkWrong(t, h)
				continue
			}
			count++
			checkRight(t, h, text+behind)
			checkWrong(t, with(h, named, ""))
		}
	}
	if count != len(texts)*len(locals) {
		t.Errorf("%d right ones", count)
	}
	checkWrong(t, api.Header{})
	checkWrong(t, api.Header{Locals: []string{"I"}})
	checkRight(t, api.Header{Name: "F", Locals: []string{}}, "F")
}

// P15.1: a name that is none, at each place.
func TestNoNames(t *testing.T) {
	for _, h := range []api.Header{full(), {Result: "R", Left: "A", Name: "N", Right: "B", Locals: []string{"I"}}, {Name: "N"}} {
		for place := range list(h) {
			for _, s := range badNames {
				checkWrong(t, with(h, place, s))
			}
		}
	}
	// An empty name where one must be.
	for _, place := range []int{named, right, operandF, local, local + 1, local + 2} {
		checkWrong(t, with(full(), place, ""))
	}
	for _, s := range badNames {
		checkWrong(t, api.Header{Name: "N", Right: s})
		checkWrong(t, api.Header{Name: "N", Result: s})
		checkWrong(t, api.Header{Name: "N", Locals: []string{s}})
	}
	checkWrong(t, api.Header{Name: "N", Locals: []string{""}})
	checkWrong(t, api.Header{Name: "N", Locals: []string{"", ""}})
	checkWrong(t, api.Header{Name: "N", Locals: []string{"I", "", "J"}})
}

// P15.1, P15.2: names of all signs that names have, and as long as they may be.
func TestLongNames(t *testing.T) {
	for _, s := range []string{"a", "z", "Z", "_", "∆", "⍙", "__", "_1", "∆¯", "⍙9", "z0¯_∆⍙Z", strings.Repeat("X", 32), strings.Repeat("∆", 32), "⍙" + strings.Repeat("¯", 31), "x" + strings.Repeat("9", 31), strings.Repeat("_", 31) + "⍙"} {
		for place, was := range list(full()) {
			checkRight(t, with(full(), place, s), replaceWord(fullText, was, s))
		}
		checkRight(t, api.Header{Name: s}, s)
	}
	var l []string
	for k := range 9 {
		l = append(l, strings.Repeat("⍙", 31)+string(rune('a'+k)))
	}
	checkRight(t, build(l), l[0]+"←"+l[1]+" ("+l[4]+" "+l[2]+" "+l[5]+") "+l[3]+";"+l[6]+";"+l[7]+";"+l[8])
	for place := range l {
		long := slices.Clone(l)
		long[place] += "a"
		checkWrong(t, build(long))
		checkNone(t, long[0]+"←"+long[1]+" ("+long[4]+" "+long[2]+" "+long[5]+") "+long[3]+";"+long[6]+";"+long[7]+";"+long[8])
	}
}

// replaceWord is text with one of its words replaced.
func replaceWord(text, was, s string) string {
	return regexp.MustCompile(`\b`+was+`\b`).ReplaceAllLiteralString(text, s)
}

// P15.1, P15.2: two that are the same, and two that differ in one sign alone.
func TestTwoAlike(t *testing.T) {
	h := full()
	for _, s := range []string{"L", "M", "N", "O", "P", "Q", "S", "T", "U"} {
		h.Locals = append(h.Locals, s)
	}
	text := fullText + ";L;M;N;O;P;Q;S;T;U"
	checkRight(t, h, text)
	l := list(h)
	for one := range l {
		for two := range l {
			if one == two {
				continue
			}
			checkWrong(t, with(h, one, l[two]))
			checkNone(t, replaceWord(text, l[one], l[two]))
			for _, pair := range [][2]string{{"ab", "aB"}, {"abc", "ab"}, {"∆1", "⍙1"}, {"_", "__"}, {"X¯", "X"}, {strings.Repeat("x", 32), strings.Repeat("x", 31) + "y"}, {strings.Repeat("x", 32), "y" + strings.Repeat("x", 31)}} {
				unlike := with(with(h, one, pair[0]), two, pair[1])
				// W is in no text, so that the second word is not taken for the first one.
				checkRight(t, unlike, replaceWord(replaceWord(replaceWord(text, l[one], "W"), l[two], pair[1]), "W", pair[0]))
				checkWrong(t, with(unlike, one, pair[1]))
				checkWrong(t, with(unlike, two, pair[0]))
			}
		}
	}
}

// P15.1, P15.2: the first and the last of many.
func TestManyAlike(t *testing.T) {
	h := api.Header{Name: "F"}
	for k := range 5000 {
		h.Locals = append(h.Locals, "v"+strconv.Itoa(k))
	}
	text := "F;" + strings.Join(h.Locals, ";")
	checkRight(t, h, text)
	for _, pair := range [][2]int{{0, 4999}, {4999, 0}, {2500, 4999}, {0, 1}, {4998, 4999}} {
		other := with(h, local+pair[0], h.Locals[pair[1]])
		checkWrong(t, other)
		checkNone(t, "F;"+strings.Join(other.Locals, ";"))
	}
	checkWrong(t, with(h, local+4999, "F"))
	checkWrong(t, with(h, local, "F"))
	checkWrong(t, with(h, named, "v4999"))
}

// P15.2: texts that no right header has.
func TestNoHeaders(t *testing.T) {
	for _, s := range []string{
		"", " ", "  ", "←", "(", ")", "()", ";", "( )", "\x00", "\n",
		" F", "F ", "  F", "F  ", "F  X", " F X", "F X ", "X  F Y", "X F  Y", "X F Y ", " X F Y", "F\tX", "F\nX", "F X\n", "F\u00a0X",
		"R ←F", "R← F", "R ← F", "R←F ", " R←F", "R←  F", "←F", "R←", "R←←F", "R←S←F", "R←R", "R←F←", "F←", "R\xe2F", "R\xe2\x86F", "R\x86\x90F", "R\x90F", "R\xe2\x90F", "R\xe2\x86\x91F", "R→F", "R\xe2\x86\x90\x90F", "R<-F", "R←;I", "R← X", "R←A ", "R←X F Y←", "F R←X", "X R←F Y", "F X←Y", "(R←F OP) Y", "(F R←OP) Y", "F;R←X", "F;I←", "F;←I",
		"F OP Y)", "(F OP Y", "F OP) Y", "A F OP) Y", "A (F OP Y", "A F OP Y", "R←A F OP G B", "((F OP) Y", "(F OP)) Y", "((F OP)) Y", "(F OP Y)", "(F) OP Y", "F (OP) Y", "()F Y", "() Y", "( ) Y", "(F) Y", "(F ) Y", "( F) Y", "F ()", "A () Y", "() OP Y", "(F OP G H) Y", "A (F OP G H) Y", "( F OP) Y", "(F OP ) Y", "(F  OP) Y", "(F OP  G) Y", "(F OP G ) Y", "( F OP G) Y", "(F OP)Y", "A(F OP) Y", "A  (F OP) Y", "(F OP)  Y", "(F OP) Y ", " (F OP) Y", "A (F OP)Y", "(OP)", "(OP) Y", "A (OP) Y", "(F OP)", "(F OP) ", "A (F OP)", "R←(F OP)", "(F OP);I", "(F OP G)", "A (F OP G)", "(F OP) Y Z", "A B (F OP) Y", "A (F OP) Y Z", "A (F OP) (Y)", "(A) F Y", "A F (Y)", "(F OP) (G OQ) Y", "(F)", "(R)←F", "R←(F)", "R←)F OP( Y", ")F OP( Y", ")F OP) Y", "(F OP( Y", "F;(I)", "F;(I J)", "(F;I)", "(F OP;I) Y", "(F;OP) Y", "(F←OP) Y", "[F OP] Y", "{F OP} Y",
		";F", ";A", "F;", "F;;", "F;;I", "F;I;", "F;I;;J", "F ;I", "F; I", "F;I ", "F;I J", "F;I; J", "F;I ;J", "F X;", "F X ;I", ";I;J", "F,I", "F:I", "R←;F", "R;I←F",
		"A F X Y", "X F Y Z", "R←X F Y Z", "A B C D E", "F A B C", "F F", "F X X", "X F X", "F F X", "F X F", "F;F", "F X;X", "F X;F", "R←F;R", "R←F R", "X F Y;A;A", "X F Y;A;B;A", "(F F) Y", "(F OP F) Y", "(F OP OP) Y", "(F OP) F", "(F OP) OP", "A (A OP) Y", "A (F A) Y", "A (F OP A) Y", "A (F OP) A", "R←(R OP) Y", "R←(F R) Y", "R←R X", "R←R F X",
		"1", "F 1", "1 F", "1←F", "⎕IO", "F ⎕IO", "F;⎕IO", "⎕IO←F", "R←F ⎕IO", "(⎕IO F) X", "F;X.Y", "F.X", "F-X", "'F'", "F\x00", "\x00F", "F \x00", "F\xff", "F \xffX", "F X\xff", "F;\xff", "\xff←F", "∇F", "∇F X", "F X ∇", "F X ⍝ Y", "⍝", "É", "F É",
	} {
		checkNone(t, s)
		if _, is := modelRead(s); is {
			t.Errorf("the model reads %s", brief(s))
		}
	}
}

// P15.2: what stands behind the text, and ahead of it.
func TestBeside(t *testing.T) {
	for _, text := range []string{"F", "F X", "X F Y", "R←F", "R←X F Y;I", "(F OP) Y", "X (F OP G) Y", fullText} {
		for _, more := range []string{" ", "  ", "\n", "\r\n", "\x00", "\xff", "\xe2", "\xe2\x86", "←", ";", "(", ")", "()", " (", ") ", ".", "'", "⎕", ";;", "; ", " ;", "\u00a0", "\ufeff", "\ufffd"} {
			checkNone(t, text+more)
			checkNone(t, more+text)
		}
		for _, more := range []string{"a", "1", "¯", "\xc2\xaf", ";z", " z", "z ", "z←", "(z ", ";z;y"} {
			checkModel(t, text+more)
			checkModel(t, more+text)
		}
	}
}

// P15.2, P15.4: each text over a few telling signs, up to a small length.
func TestShortTexts(t *testing.T) {
	read := 0
	see := func(parts []string) {
		s := strings.Join(parts, "")
		checkModel(t, s)
		if _, ok := Parse(s); ok {
			read++
		}
	}
	probe.Walk(nil, []string{"A", "B", " ", "(", ")", "←", ";", "1"}, 5, see)
	probe.Walk(nil, []string{"A", "b", "∆", " ", ";"}, 7, see)
	probe.Walk(nil, []string{"A", "B ", "C", "D", " ", "(", ") ", "←"}, 6, see)
	if read < 500 {
		t.Errorf("%d texts are headers'", read)
	}
}

// P15.2, P15.4: texts of operators, each part of which is told or not.
func TestPartsOfOperators(t *testing.T) {
	read := 0
	parts := [][]string{{"", "R", "R←", "(←"}, {"", "A", "A ", " "}, {"", "(", " ("}, {"", "F", "F "}, {"", "OP", "R", "OP "}, {"", "G", " G", " G "}, {"", ")", "))"}, {"", "B", " B", " A"}, {"", ";", ";I", ";I;J", ";B"}}
	var walk func(s string, left [][]string)
	walk = func(s string, left [][]string) {
		if len(left) > 0 {
			for _, part := range left[0] {
				walk(s+part, left[1:])
			}
			return
		}
		checkModel(t, s)
		if _, ok := Parse(s); ok {
			read++
		}
	}
	walk("", parts)
	if read < 200 {
		t.Errorf("%d texts are headers'", read)
	}
}

// P15.2, P15.4: texts of which a byte, or a piece, is another one, is missing, or is there twice.
func TestEachByte(t *testing.T) {
	for _, text := range []string{"F", "R←X F Y;I", "X (F OP G) Y", fullText, "∆1←⍙ (a_¯ bB) c;d"} {
		checkModel(t, text)
		for at := range len(text) + 1 {
			checkModel(t, text[:at])
			checkModel(t, text[at:])
			for n := range 256 {
				checkModel(t, text[:at]+string([]byte{byte(n)})+text[at:])
				if at < len(text) {
					checkModel(t, text[:at]+string([]byte{byte(n)})+text[at+1:])
				}
			}
			for size := 1; at+size <= len(text); size++ {
				checkModel(t, text[:at]+text[at+size:])
				checkModel(t, text[:at+size]+text[at:])
			}
			for _, piece := range []string{"←", "()", "(X ", ") ", " (", ";Z", " Z", "Z ", "\ufffd", "\xe2\x86", "⎕", "¯"} {
				checkModel(t, text[:at]+piece+text[at:])
			}
		}
	}
}

// P15.1: each byte and each few signs as a name.
func TestEachByteAsName(t *testing.T) {
	for n := range 256 {
		for _, s := range []string{string([]byte{byte(n)}), "x" + string([]byte{byte(n)}), string([]byte{byte(n)}) + "x"} {
			for place := range list(full()) {
				h := with(full(), place, s)
				if modelAlone.MatchString(s) && !slices.Contains(list(full()), s) {
					checkRight(t, h, replaceWord(fullText, list(full())[place], s))
				} else if s != list(full())[place] {
					checkWrong(t, h)
				}
			}
		}
	}
}

// P15.1, P15.2: much of everything ends soon.
func TestMuch(t *testing.T) {
	const many = 1 << 20
	h := full()
	h.Locals = nil
	for k := range many {
		h.Locals = append(h.Locals, "∆"+strconv.Itoa(k))
	}
	checkRight(t, h, "R←A (F OP G) B;"+strings.Join(h.Locals, ";"))
	for place := range list(full()) {
		checkWrong(t, with(full(), place, strings.Repeat("A", many)))
		checkWrong(t, with(full(), place, strings.Repeat("\xff", many)))
	}
	checkWrong(t, api.Header{Name: "F", Locals: slices.Repeat([]string{"I"}, many)})
	checkWrong(t, api.Header{Name: "F", Locals: make([]string, many)})
	for _, piece := range []string{"A", " ", "←", "(", ")", ";", ";A", "A;", "A ", "A←", "(A", "(A ", "\x00", "\xff", "\xe2", "∆", "F X;", ";A;B"} {
		for _, ahead := range []string{"", "F;", "F ", "R←", "(", "R←A (F OP G) B"} {
			checkNone(t, ahead+strings.Repeat(piece, many))
		}
	}
}

// P15.4: what Text wrote is read as it was, and what Parse read is written as it was.
func TestBack(t *testing.T) {
	texts := map[string]api.Header{}
	words := []string{"", "A", "B", "∆", "A1"}
	for n := range 5 * 5 * 5 * 5 * 5 * 5 {
		var l []string
		for range local {
			l = append(l, words[n%5])
			n /= 5
		}
		for _, locals := range [][]string{nil, {"B"}, {"C", "D"}} {
			h := build(slices.Concat(l, locals))
			text := Text(h)
			if (text != "") != Right(h) {
				t.Fatalf("%s: %q", tell(h), text)
			}
			if text == "" {
				continue
			}
			if other, there := texts[text]; there {
				t.Fatalf("%q: %s and %s", text, tell(h), tell(other))
			}
			texts[text] = h
			checkRight(t, h, text)
			checkModel(t, text)
		}
	}
	if len(texts) < 100 {
		t.Errorf("%d right ones", len(texts))
	}
}

// roomy is l with more spare room behind it than a header has names that are no locals.
func roomy(l ...string) []string {
	return slices.Concat(l, slices.Repeat([]string{"spare"}, 4*local))[:len(l)]
}

// P15.3, W6: what is handed in is not changed, nor its spare room.
func TestNotChanged(t *testing.T) {
	for _, s := range []string{"I", "A", "1", ""} {
		h := full()
		h.Locals = roomy("J", s, "K")
		was := slices.Clone(h.Locals[:cap(h.Locals)])
		before := list(h)
		Right(h)
		Text(h)
		if !slices.Equal(h.Locals[:cap(h.Locals)], was) || !slices.Equal(list(h), before) {
			t.Errorf("%s: %q", tell(h), h.Locals[:cap(h.Locals)])
		}
	}
	h := api.Header{Name: "F", Locals: roomy()}
	was := slices.Clone(h.Locals[:cap(h.Locals)])
	checkRight(t, h, "F")
	if !slices.Equal(h.Locals[:cap(h.Locals)], was) {
		t.Errorf("%q", h.Locals[:cap(h.Locals)])
	}
}

// P15.3, W6: what Parse answers is new memory.
func TestParseIsNew(t *testing.T) {
	for _, text := range []string{"F", "F X", "X F Y", "R←F;I", "R←X F Y;I;J", "(F OP) Y", fullText} {
		bytes := []byte(text)
		h, ok := Parse(unsafe.String(&bytes[0], len(bytes)))
		was := list(h)
		for k, s := range was {
			was[k] = strings.Clone(s)
		}
		probe.Fill(bytes, '#')
		if !ok || !slices.Equal(list(h), was) || Text(h) != text {
			t.Errorf("%s, then %s", brief(text), tell(h))
		}
		checkApart(t, h)
	}
	first, _ := Parse(fullText)
	second, _ := Parse(fullText)
	probe.Fill(first.Locals, "Z")
	third, _ := Parse(fullText)
	if !same(second, full()) || !same(third, full()) {
		t.Errorf("%s, %s", tell(second), tell(third))
	}
	probe.Fill(second.Locals, "1")
	if !same(third, full()) {
		t.Errorf("%s", tell(third))
	}
}

// checkApart tells if no two names of h share memory.
func checkApart(t *testing.T, h api.Header) {
	t.Helper()
	at := map[uintptr]bool{}
	for _, s := range list(h) {
		from := uintptr(unsafe.Pointer(unsafe.StringData(s)))
		for k := range uintptr(len(s)) {
			if at[from+k] {
				t.Errorf("%s: names share memory", tell(h))
			}
			at[from+k] = true
		}
	}
}

// P15.3, W6: what Text answers is new memory, and no list that was handed in is kept.
func TestTextIsNew(t *testing.T) {
	var all [][]byte
	loose := func(s string) string {
		bytes := []byte(s)
		all = append(all, bytes)
		return unsafe.String(&bytes[0], len(bytes))
	}
	name := api.Header{Name: loose("F")}
	h := api.Header{Result: loose("R"), Left: loose("A"), Name: loose("OP"), Right: loose("B"), F: loose("F"), G: loose("G"), Locals: []string{loose("I"), loose("J"), loose("K")}}
	alone, text := Text(name), Text(h)
	for _, bytes := range all {
		probe.Fill(bytes, '#')
	}
	h.Locals[0] = "Z"
	if alone != "F" || text != fullText {
		t.Errorf("%q, %q", alone, text)
	}
	checkWrong(t, h)
	checkRight(t, full(), fullText)
}

// P15.3, W2: the same once more, whatever came between.
func TestOnceMore(t *testing.T) {
	for range 3 {
		checkRight(t, full(), fullText)
		checkNone(t, fullText+";")
		checkWrong(t, with(full(), named, ""))
		checkRight(t, api.Header{Name: "F"}, "F")
	}
}
