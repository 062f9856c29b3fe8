package function

import (
	"regexp"
	"slices"
	"strconv"
	"strings"
	"testing"
	"unicode/utf8"
	"unsafe"

	"deckle/header"
	"deckle/probe"
)

// many is how long the long texts and lists are.
const many = 1 << 20

// brief is s, or its front and how long it is.
func brief(s string) string {
	if len(s) > 100 {
		return strconv.Quote(s[:60]) + ".. of " + strconv.Itoa(len(s))
	}
	return strconv.Quote(s)
}

// tell is lines, to be read.
func tell(lines []string) string {
	var all []string
	for _, line := range lines[:min(len(lines), 10)] {
		all = append(all, brief(line))
	}
	return strconv.Itoa(len(lines)) + " lines: " + strings.Join(all, " ")
}

// checkLine holds Line against what is asked of it.
func checkLine(t *testing.T, s string, is bool) {
	t.Helper()
	if Line(s) != is {
		t.Errorf("line %s: not %v", brief(s), is)
	}
}

// checkLabels holds Labels against what is asked of it.
func checkLabels(t *testing.T, lines []string, want ...string) {
	t.Helper()
	if got := Labels(lines); !slices.Equal(got, want) {
		t.Errorf("labels of %s: %q, not %q", tell(lines), got, want)
	}
}

// checkRight holds lines that are right.
func checkRight(t *testing.T, name string, lines ...string) {
	t.Helper()
	if got := Name(lines); !Right(lines) || got != name {
		t.Errorf("%s: %v, %q, not true, %q", tell(lines), Right(lines), got, name)
	}
}

// checkWrong holds lines that are not right.
func checkWrong(t *testing.T, lines ...string) {
	t.Helper()
	if got := Name(lines); Right(lines) || got != "" {
		t.Errorf("%s: %v, %q, not false, and empty", tell(lines), Right(lines), got)
	}
}

// modelLine reads the signs of a line one by one.
func modelLine(s string) bool {
	count := 0
	for len(s) > 0 {
		sign, size := utf8.DecodeRuneInString(s)
		if sign == utf8.RuneError && size == 1 || sign < 32 || sign > 126 && sign < 160 {
			return false
		}
		count++
		s = s[size:]
	}
	return count <= 1000
}

// modelLabel is a label, as a pattern: how many signs it has stands in no pattern.
var modelLabel = regexp.MustCompile(`^([A-Za-z_\x{2206}\x{2359}][A-Za-z_\x{2206}\x{2359}0-9\x{af}]*):`)

// modelLabels reads labels by the pattern.
func modelLabels(lines []string) []string {
	var labels []string
	for _, line := range lines[min(len(lines), 1):] {
		if g := modelLabel.FindStringSubmatch(line); g != nil {
			labels = append(labels, g[1])
		}
	}
	return labels
}

// modelName is the name of lines that are right.
func modelName(lines []string) (string, bool) {
	if len(lines) < 1 || len(lines) > 1000 {
		return "", false
	}
	for _, line := range lines {
		if !modelLine(line) {
			return "", false
		}
	}
	h, ok := header.Parse(lines[0])
	if !ok {
		return "", false
	}
	there := map[string]bool{}
	for _, s := range append([]string{h.Result, h.Left, h.Name, h.Right, h.F, h.G}, h.Locals...) {
		there[s] = true
	}
	for _, label := range modelLabels(lines) {
		if there[label] || utf8.RuneCountInString(label) > 32 {
			return "", false
		}
		there[label] = true
	}
	return h.Name, true
}

// checkModel holds all calls against the models.
func checkModel(t *testing.T, lines []string) {
	t.Helper()
	for _, line := range lines {
		if Line(line) != modelLine(line) {
			t.Fatalf("line %s: not %v", brief(line), modelLine(line))
		}
	}
	if got, want := Labels(lines), modelLabels(lines); !slices.Equal(got, want) {
		t.Fatalf("labels of %s: %q, not %q", tell(lines), got, want)
	}
	name, is := modelName(lines)
	if Right(lines) != is || Name(lines) != name {
		t.Fatalf("%s: %v, %q, not %v, %q", tell(lines), Right(lines), Name(lines), is, name)
	}
}

// noSigns are bytes that are no UTF-8.
var noSigns = []string{
	"\x80", "\xbf", "\xc0", "\xc1", "\xc2", "\xdf", "\xe0", "\xef", "\xf0", "\xf4", "\xf5", "\xf8", "\xfe", "\xff",
	"\xe2\x88", "\xe2\x86", "\xf0\x9f\x98", "\xf4\x8f\xbf", "\xc2\xc2\xa0",
	"\xc0\x80", "\xc0\xa0", "\xc1\x81", "\xc1\xbf", "\xe0\x80\x80", "\xe0\x81\x81", "\xe0\x9f\xbf", "\xf0\x80\x80\x80", "\xf0\x8f\xbf\xbf", "\xf8\x88\x80\x80\x80",
	"\xed\xa0\x80", "\xed\xaf\xbf", "\xed\xb0\x80", "\xed\xbf\xbf", "\xed\xa0\xbd\xed\xb8\x80",
	"\xf4\x90\x80\x80", "\xf5\x80\x80\x80", "\xf7\xbf\xbf\xbf",
	"\x86\x90", "\xe2\x86\x90\x90", "\u00a0\x80",
}

// around is s at the front, within, at the end, and alone.
func around(s string) []string {
	return []string{s, s + "ab", "a" + s + "b", "ab" + s, "←" + s + "←", "∆∆" + s, s + s}
}

// headers are texts of headers, and the names in them.
var headers = map[string]string{
	"F": "F", "R←F": "F", "F X": "F", "R←F X": "F", "X F Y": "F", "R←X F Y": "F",
	"(F OP) Y": "OP", "R←(F OP) Y": "OP", "X (F OP) Y": "OP", "R←X (F OP) Y": "OP",
	"(F OP G) Y": "OP", "R←(F OP G) Y": "OP", "X (F OP G) Y": "OP", "R←X (F OP G) Y": "OP",
	"F;I": "F", "R←X F Y;I;J;K": "F", "R←X (F OP G) Y;I;J;K": "OP", "∆⍙;⍙∆": "∆⍙",
	strings.Repeat("∆", 32) + " X": strings.Repeat("∆", 32),
}

// P16.1, P16.2
func TestExample(t *testing.T) {
	lines := []string{"F X", "L:X"}
	checkLabels(t, lines, "L")
	checkRight(t, "F", lines...)
}

// P16.1: lines of few signs and of many.
func TestLineLengths(t *testing.T) {
	checkLine(t, "", true)
	for _, sign := range []string{" ", "a", "~", "¯", "\u00a0", "←", "\uffff", "\U0001f600", "\U0010ffff"} {
		for _, count := range []int{1, 2, 31, 32, 33, 250, 251, 333, 334, 499, 500, 501, 999, 1000} {
			checkLine(t, strings.Repeat(sign, count), true)
		}
		for _, count := range []int{1001, 1002, 1333, 1500, 2000, 3000, 4000, 4001, 65536, 65537} {
			checkLine(t, strings.Repeat(sign, count), false)
		}
		checkLine(t, strings.Repeat("b", 999)+sign, true)
		checkLine(t, sign+strings.Repeat("b", 999), true)
		checkLine(t, strings.Repeat("b", 1000)+sign, false)
		checkLine(t, sign+strings.Repeat("b", 1000), false)
	}
	checkLine(t, strings.Repeat("a←", 500), true)
	checkLine(t, strings.Repeat("a←", 500)+"a", false)
}

// P16.1: each sign that may be wrong, at each place.
func TestLineSigns(t *testing.T) {
	for sign := range rune(0xa2) {
		is := sign >= 0x20 && sign <= 0x7e || sign >= 0xa0
		for _, s := range around(string(sign)) {
			checkLine(t, s, is)
		}
		checkLine(t, strings.Repeat("a", 999)+string(sign), is)
	}
	for sign := rune(0xa0); sign <= 0x10ffff; sign++ {
		// No text has the signs of a pair alone.
		if sign < 0xd800 || sign > 0xdfff {
			checkLine(t, string(sign), true)
		}
	}
	for _, sign := range []string{"\u2190", "\u2028", "\u2029", "\ud7ff", "\ue000", "\ufdd0", "\ufeff", "\ufffd", "\ufffe", "\uffff", "\U00010000", "\U000e0001", "\U0010fffe", "\U0010ffff"} {
		for _, s := range around(sign) {
			checkLine(t, s, modelLine(s))
		}
	}
}

// P16.1: bytes that are no UTF-8.
func TestLineNoSigns(t *testing.T) {
	for _, piece := range noSigns {
		for _, s := range around(piece) {
			checkLine(t, s, false)
		}
		checkLine(t, strings.Repeat("a", 999)+piece, false)
		checkLine(t, piece+strings.Repeat("a", 998), false)
	}
	for one := range 256 {
		for two := range 256 {
			s := string([]byte{byte(one), byte(two)})
			checkLine(t, s, modelLine(s))
			s = "\xe2" + s
			checkLine(t, s, modelLine(s))
		}
	}
}

// P16.1: which lines have a label, and which one.
func TestLabels(t *testing.T) {
	checkLabels(t, nil)
	checkLabels(t, []string{})
	checkLabels(t, []string{""})
	checkLabels(t, []string{"L:X"})
	checkLabels(t, []string{"L:X", "M:X"}, "M")
	checkLabels(t, []string{"", "M:X", "N:"}, "M", "N")
	long := strings.Repeat("x", 33)
	for line, label := range map[string]string{
		"": "", " ": "", "X": "", "X←1": "", "∆": "", "1": "", "→L": "",
		":": "", "::": "", ":X": "", ":L:": "", " :": "",
		"L:": "L", "L:X": "L", "L: X": "L", "L:1": "L", "L::": "L", "L::X": "L", "L:M:": "L", "L:M:X": "L", "L:←": "L", "L:'": "L", "L: ": "L",
		" L:": "", " L:X": "", "L :": "", "L :X": "", "L X:": "", "L\t:": "", "\tL:": "", "L;:": "", "L;M:": "", "(L:": "", "L.M:": "", "L←:": "", "L←M:": "", "'L:": "", "L[1]:": "",
		"1:": "", "1L:": "", "L1:": "L1", "¯L:": "", "L¯:": "L¯", "_:": "_", "_1:x": "_1", "aZ_9:": "aZ_9", "∆:X": "∆", "⍙:X": "⍙", "⍙∆1¯:←": "⍙∆1¯", "A∆:": "A∆", "∇:": "", "A∇:": "", "⎕IO:": "", "⎕:": "", "É:": "", "AÉ:": "", "⍺:": "",
		"L": "", "L1¯": "", "L;": "", "L.": "", "L\uff1a": "", "L\u02d0": "", "L¨": "",
		"L:\xff": "L", "L\xff:": "", "\xffL:": "", "L\xe2:": "", "L\xe2\x88:": "", "\xe2\x88:": "", "\x88\x86:": "", "L\xc2:": "", "L\xaf:": "", "\xc1\x8c:": "", "L:\x00": "L", "L\x00:": "", "\x00L:": "", "L:\nM:": "L", "\nL:": "", "L\n:": "",
		strings.Repeat("x", 32) + ":": strings.Repeat("x", 32), long + ":": long, long + ":y": long, strings.Repeat("⍙", 32) + ":": strings.Repeat("⍙", 32), strings.Repeat("⍙", 33) + ":": strings.Repeat("⍙", 33), long + " :": "", long: "",
		"L:" + strings.Repeat("x", 2000): "L", strings.Repeat("x", 2000) + ":": strings.Repeat("x", 2000),
	} {
		var want []string
		if label != "" {
			want = []string{label}
		}
		checkLabels(t, []string{"F", line}, want...)
		checkLabels(t, []string{line, line}, want...)
		checkLabels(t, []string{line})
		checkLabels(t, []string{"F", "A:", line, "B:"}, slices.Concat([]string{"A"}, want, []string{"B"})...)
		checkModel(t, []string{"F", line})
	}
}

// P16.1: the order of labels, and labels that are the same.
func TestLabelsOrder(t *testing.T) {
	checkLabels(t, []string{"A:", "Z:", "", "B:b", "A:", "x", "Z:", " C:", "a:", "Z:z"}, "Z", "B", "A", "Z", "a", "Z")
	checkLabels(t, []string{"\xff", "Z:\xff", "\xffY:", "X:\t", strings.Repeat("b", 1001), "B:" + strings.Repeat("b", 1001), "A:"}, "Z", "X", "B", "A")
	checkLabels(t, []string{"L:", "L:", "L:", "L:"}, "L", "L", "L")
	lines, labels := []string{"F"}, []string(nil)
	for k := range 3000 {
		lines = append(lines, "L"+strconv.Itoa(k*7919%3000)+":", "no label")
		labels = append(labels, "L"+strconv.Itoa(k*7919%3000))
	}
	checkLabels(t, lines, labels...)
}

// P16.2: how many lines there may be.
func TestCountOfLines(t *testing.T) {
	checkWrong(t)
	checkWrong(t, []string{}...)
	for _, line := range []string{"", " ", "X", "→0", "L :"} {
		for _, behind := range []int{0, 1, 2, 31, 32, 33, 255, 256, 998, 999} {
			checkRight(t, "F", slices.Concat([]string{"F"}, slices.Repeat([]string{line}, behind))...)
		}
		for _, behind := range []int{1000, 1001, 1999, 2000, 65535, 65536} {
			checkWrong(t, slices.Concat([]string{"F"}, slices.Repeat([]string{line}, behind))...)
		}
	}
	lines := []string{"F"}
	for k := range 999 {
		lines = append(lines, "L"+strconv.Itoa(k)+":"+strings.Repeat("←", 1000-len("L:")-len(strconv.Itoa(k))))
	}
	checkRight(t, "F", lines...)
	checkWrong(t, append(lines, "")...)
	checkWrong(t, append(lines, "Z:")...)
	checkRight(t, "F", lines...)
}

// P16.2: the first line is a header's text.
func TestHeaders(t *testing.T) {
	for head, name := range headers {
		checkRight(t, name, head)
		checkRight(t, name, head, "")
		checkRight(t, name, head, "L:", "M: N", "", "F", "OP X", "X F Y")
		checkWrong(t, head+" ")
		checkWrong(t, head+" ", "L:")
		checkWrong(t, " "+head)
		checkWrong(t, "", head)
		checkWrong(t, head+"\n")
		checkWrong(t, head+"\nL:")
		checkWrong(t, head+":")
		checkWrong(t, "L:"+head)
	}
	for _, head := range []string{"", " ", "1", "F ", " F", "F  X", "F X ", "F F", "F X X", "X F X", "R←R", "R←F R", "R←F;R", "F;F", "F;I;I", "(F F) Y", "(F OP)", "(OP) Y", "F;", ";I", "F:", "L:F", ":F", "⎕IO", "F X Y Z", "∇F", "F ⍝", strings.Repeat("F", 33), "\xff", "F\xff", "F X\t"} {
		checkWrong(t, head)
		checkWrong(t, head, "F", "L:")
	}
}

// long is the text of a header of so many signs, 20 at least.
func long(count int) string {
	text := "F"
	for k := 0; len(text) < count-10; k++ {
		text += ";V" + strconv.Itoa(100+k)
	}
	return text + ";" + strings.Repeat("x", count-len(text)-1)
}

// P16.2: a header is a line too, of 1000 signs at most.
func TestLongHeaders(t *testing.T) {
	for _, count := range []int{20, 500, 999, 1000} {
		checkRight(t, "F", long(count))
	}
	for _, count := range []int{1001, 1002, 2000} {
		if _, ok := header.Parse(long(count)); !ok {
			t.Errorf("%s is a header's", brief(long(count)))
		}
		checkWrong(t, long(count))
		checkWrong(t, long(count), "")
	}
	// Signs are counted, not bytes.
	text := long(990) + ";∆∆∆∆⍙⍙⍙⍙¯"
	checkRight(t, "F", text)
	checkWrong(t, text+"¯")
}

// P16.2: a line that is not right, at each place.
func TestWrongLines(t *testing.T) {
	bad := append([]string{"\t", "\x00", "\x1f", "\x7f", "\u0080", "\u009f", "a\n", "\n", "\r", "a\tb", "L:\t", "L:\xff", "'\x1b'", strings.Repeat("a", 1001), strings.Repeat("∆", 1001), "L:" + strings.Repeat("a", 999)}, noSigns...)
	for _, piece := range bad {
		for count := 1; count <= 4; count++ {
			for at := range count {
				lines := append([]string{"F X"}, slices.Repeat([]string{"ok"}, count-1)...)
				checkRight(t, "F", lines...)
				lines[at] = piece
				checkWrong(t, lines...)
			}
		}
		many := append([]string{"F X"}, make([]string, 999)...)
		many[999] = piece
		checkWrong(t, many...)
		many[999], many[500] = "", piece
		checkWrong(t, many...)
	}
	for _, line := range []string{strings.Repeat("a", 1000), strings.Repeat("∆", 1000), "L:" + strings.Repeat("a", 998), "\u00a0", "\U0010ffff", "~", "'←'"} {
		checkRight(t, "F", "F X", line)
		checkRight(t, "F", "F X", "", line, "")
	}
}

// P16.2: labels that are no names.
func TestLongLabels(t *testing.T) {
	for _, sign := range []string{"x", "∆", "⍙", "_"} {
		checkRight(t, "F", "F X", strings.Repeat(sign, 31)+":")
		checkRight(t, "F", "F X", strings.Repeat(sign, 32)+":")
		checkWrong(t, "F X", strings.Repeat(sign, 33)+":")
		checkWrong(t, "F X", strings.Repeat(sign, 34)+":X")
		checkWrong(t, "F X", strings.Repeat(sign, 999)+":")
		checkWrong(t, "F X", "L:", strings.Repeat(sign, 33)+":", "M:")
		checkWrong(t, "F X", sign+strings.Repeat("¯", 32)+":")
		checkRight(t, "F", "F X", sign+strings.Repeat("¯", 31)+":")
		// What is no label may be as long as a line.
		checkRight(t, "F", "F X", strings.Repeat(sign, 33))
		checkRight(t, "F", "F X", strings.Repeat(sign, 33)+" :")
		checkRight(t, "F", "F X", strings.Repeat(sign, 1000))
	}
}

// P16.2: labels that are like one another, or like a name of the header.
func TestUnlike(t *testing.T) {
	full := "R←A (F OP G) B;I;J;K"
	for _, word := range []string{"R", "A", "F", "OP", "G", "B", "I", "J", "K"} {
		checkWrong(t, full, word+":")
		checkWrong(t, full, word+":X")
		checkWrong(t, full, "L:", "", word+":", "M:")
		checkWrong(t, append(append([]string{full}, make([]string, 998)...), word+":")...)
		for _, other := range []string{word + "1", word + "¯", "_" + word, strings.ToLower(word), "∆" + word, word + word} {
			checkRight(t, "OP", full, other+":")
		}
		// Where it is no label, it may stand.
		checkRight(t, "OP", full, word)
		checkRight(t, "OP", full, word+" :")
		checkRight(t, "OP", full, " "+word+":")
		checkRight(t, "OP", full, "L:"+word+":")
	}
	for head, words := range map[string]string{"F": "F", "R←F": "R F", "F X": "F X", "R←X F Y": "R X F Y", "(F OP) Y": "F OP Y", "X (F OP G) Y": "X F OP G Y", "F;I": "F I", "F;I;J;K;L": "F I J K L"} {
		for _, word := range strings.Fields("R F X Y OP G I J K L M") {
			if slices.Contains(strings.Fields(words), word) {
				checkWrong(t, head, word+":")
				checkWrong(t, head, "N:", word+":")
			} else {
				checkRight(t, Name([]string{head}), head, word+":")
				checkRight(t, Name([]string{head}), head, "N:", word+":")
			}
		}
	}
	checkWrong(t, "F", "L:", "L:")
	checkWrong(t, "F", "L:1", "L:2")
	checkWrong(t, "F", "L:", "M:", "N:", "L:")
	checkWrong(t, "F", "M:", "L:", "", "L:", "N:")
	checkWrong(t, append(append([]string{"F", "L:"}, make([]string, 997)...), "L:")...)
	checkRight(t, "F", "F", "L:", "", "", ":", ":", "::", " L:", "L :")
	word := strings.Repeat("x", 31)
	for _, pair := range [][2]string{{"ab", "aB"}, {"ab", "abc"}, {"ab", "bb"}, {"∆1", "⍙1"}, {"_", "__"}, {"X¯", "X"}, {word + "x", word + "y"}, {"x" + word, "y" + word}, {word, word + "x"}} {
		checkRight(t, "F", "F", pair[0]+":", pair[1]+":")
		checkRight(t, pair[0], pair[0], pair[1]+":")
		checkRight(t, "F", "F;"+pair[1], pair[0]+":")
		checkWrong(t, "F", pair[0]+":", pair[0]+":")
		checkWrong(t, pair[0], pair[0]+":")
		checkWrong(t, "F;"+pair[1], pair[1]+":")
	}
}

// P16.2: all labels of many lines.
func TestManyLabels(t *testing.T) {
	lines := []string{"R←A (F OP G) B;I"}
	for k := range 999 {
		lines = append(lines, "L"+strconv.Itoa(k)+":")
	}
	checkRight(t, "OP", lines...)
	for _, at := range []int{1, 2, 500, 999} {
		for _, label := range []string{"R:", "A:", "F:", "OP:", "G:", "B:", "I:", lines[1], lines[999], lines[500], strings.Repeat("x", 33) + ":"} {
			other := slices.Clone(lines)
			other[at] = label
			if lines[at] != label {
				checkWrong(t, other...)
			}
		}
	}
}

// P16.1, P16.2: lines of a few telling pieces, up to a small length.
func TestShortLines(t *testing.T) {
	right := 0
	see := func(lines []string) {
		checkModel(t, lines)
		if Right(lines) {
			right++
		}
	}
	probe.Walk(nil, []string{"F", "F X;L", "L:", "X:", " L:", "", "M:x", "\t", "1", "L"}, 4, see)
	probe.Walk(nil, []string{"A", "A:", "∆:", "∆", "R←∆ A", "\xff:"}, 5, see)
	if right < 500 {
		t.Errorf("%d are right", right)
	}
	probe.Walk(nil, []string{"a", "1", ":", " ", "∆", "¯", "\xe2", "\x9f", "\n"}, 5, func(parts []string) {
		checkModel(t, []string{"F", strings.Join(parts, "")})
	})
}

// P16.1, P16.2: lines of which a byte is another one, or is missing, or was not there.
func TestEachByte(t *testing.T) {
	for _, was := range [][]string{{"F X", "L:X"}, {"R←X F Y;I", "∆1:←", "M: N:"}, {"(F OP) Y", ":", "⍙¯:'∆'"}} {
		for k, line := range was {
			for at := range len(line) + 1 {
				for n := range 256 {
					lines := slices.Clone(was)
					lines[k] = line[:at] + string([]byte{byte(n)}) + line[at:]
					checkModel(t, lines)
					if at < len(line) {
						lines[k] = line[:at] + string([]byte{byte(n)}) + line[at+1:]
						checkModel(t, lines)
					}
				}
				lines := slices.Clone(was)
				lines[k] = line[:at]
				checkModel(t, lines)
				lines[k] = line[at:]
				checkModel(t, lines)
			}
		}
	}
}

// P16.3
func TestJoin(t *testing.T) {
	for _, x := range []struct {
		text  string
		lines []string
	}{
		{"", nil}, {"", []string{}}, {"", []string{""}}, {"a", []string{"a"}}, {"F X\nL:X", []string{"F X", "L:X"}},
		{"\n", []string{"", ""}}, {"\n\n", []string{"", "", ""}}, {"\na", []string{"", "a"}}, {"a\n", []string{"a", ""}}, {"\n\na\n\n\nb\n\n", []string{"", "", "a", "", "", "b", "", ""}},
		{"\n", []string{"\n"}}, {"a\nb", []string{"a\nb"}}, {"\n\n", []string{"\n", ""}}, {"\n\n", []string{"", "\n"}}, {"a\n\nb\n\nc", []string{"a\n", "b\n\nc"}},
		{"\xff\n\xe2\x88\n\x86", []string{"\xff", "\xe2\x88", "\x86"}}, {"\xe2\n\x86\x90", []string{"\xe2", "\x86\x90"}}, {"a\r\nb\r", []string{"a\r", "b\r"}}, {"\x00\n\x00", []string{"\x00", "\x00"}}, {"←\n∆", []string{"←", "∆"}},
	} {
		if got := Join(x.lines...); got != x.text {
			t.Errorf("%q joined: %q, not %q", x.lines, got, x.text)
		}
	}
	if Join("a", "b", "") != "a\nb\n" || Join() != "" {
		t.Error("lines one by one")
	}
}

// P16.3
func TestSplit(t *testing.T) {
	for text, lines := range map[string][]string{
		"": {""}, "a": {"a"}, "\n": {"", ""}, "\n\n": {"", "", ""}, "\n\n\n": {"", "", "", ""}, "a\n": {"a", ""}, "\na": {"", "a"}, "a\nb": {"a", "b"}, "a\n\nb": {"a", "", "b"}, "\na\n": {"", "a", ""}, "a\n\nb\n": {"a", "", "b", ""}, "ab\ncd\nef": {"ab", "cd", "ef"},
		"a b": {"a b"}, " ": {" "}, "\r": {"\r"}, "a\r\nb": {"a\r", "b"}, "a\rb": {"a\rb"}, "\x0b\x0c\u0085\u2028": {"\x0b\x0c\u0085\u2028"}, "\x00": {"\x00"}, "\\n": {"\\n"}, "F X\nL:X": {"F X", "L:X"}, "←\n∆": {"←", "∆"}, "\u010a\u0a0a": {"\u010a\u0a0a"},
		"\xff": {"\xff"}, "\xff\n\xff": {"\xff", "\xff"}, "\xe2\n\x88\x86": {"\xe2", "\x88\x86"}, "\xe2\x88\n": {"\xe2\x88", ""}, "\n\x80": {"", "\x80"}, "\xc0\x8a": {"\xc0\x8a"}, "\xe0\x80\x8a": {"\xe0\x80\x8a"}, "\xed\xa0\x80\n": {"\xed\xa0\x80", ""},
	} {
		if got := Split(text); !slices.Equal(got, lines) {
			t.Errorf("%q split: %q, not %q", text, got, lines)
		}
	}
}

// modelSplit is the lines of s, byte by byte.
func modelSplit(s string) []string {
	lines := []string{""}
	for k := range len(s) {
		if s[k] == 10 {
			lines = append(lines, "")
		} else {
			lines[len(lines)-1] += s[k : k+1]
		}
	}
	return lines
}

// P16.3, P16.5: what was split is joined as it was.
func TestSplitAndJoin(t *testing.T) {
	probe.Walk(nil, []string{"\n", "a", "\xff", "\xe2\x88", "\x86", "\r"}, 6, func(parts []string) {
		s := strings.Join(parts, "")
		lines := Split(s)
		if !slices.Equal(lines, modelSplit(s)) || Join(lines...) != s {
			t.Fatalf("%q: %q", s, lines)
		}
	})
	for n := range 256 {
		one := string([]byte{byte(n)})
		for _, s := range []string{one, one + "a", "a" + one, "a" + one + "b", one + one, "\n" + one, one + "\n", "\n" + one + "\n"} {
			if lines := Split(s); !slices.Equal(lines, modelSplit(s)) || Join(lines...) != s {
				t.Errorf("%q: %q", s, lines)
			}
		}
	}
}

// P16.5: lines are split as they were joined.
func TestJoinAndSplit(t *testing.T) {
	probe.Walk(nil, []string{"", "a", "F X", "\xff", "\r", "∆:\x00"}, 5, func(lines []string) {
		if got := Split(Join(lines...)); len(lines) > 0 && !slices.Equal(got, lines) {
			t.Fatalf("%q: %q", lines, got)
		}
	})
	if got := Split(Join()); !slices.Equal(got, []string{""}) {
		t.Errorf("no line: %q", got)
	}
	for count := range 1200 {
		lines := append(make([]string, count), "a", "", "b")
		if got := Split(Join(lines...)); !slices.Equal(got, lines) {
			t.Fatalf("%d lines: %s", len(lines), tell(got))
		}
	}
}

// P16.1, P16.2, P16.3, P16.5: much of everything ends soon.
func TestMuch(t *testing.T) {
	for _, piece := range []string{"a", " ", ":", "a:", "∆", "∆¯", "\xff", "\xe2", "\t", "\n", "\U0010ffff", ";a", "F X;", "←"} {
		s := strings.Repeat(piece, many)
		checkLine(t, s, false)
		checkWrong(t, s)
		checkWrong(t, "F", s)
		checkLabels(t, []string{s, s}, modelLabels([]string{"", s})...)
		if lines := Split(s); Join(lines...) != s || len(lines) != strings.Count(s, "\n")+1 {
			t.Errorf("%s: %s", brief(s), tell(lines))
		}
		lines := slices.Repeat([]string{piece}, many)
		checkWrong(t, lines...)
		checkWrong(t, append([]string{"F"}, lines...)...)
		checkLabels(t, lines, modelLabels(lines)...)
		if joined := Join(lines...); len(joined) != many*(len(piece)+1)-1 || piece != "\n" && !slices.Equal(Split(joined), lines) {
			t.Errorf("%s: %s", tell(lines), brief(joined))
		}
	}
	lines := append([]string{"F"}, slices.Repeat([]string{strings.Repeat("a", many/1000) + ":"}, 999)...)
	checkWrong(t, lines...)
	empty := make([]string, many)
	if got := Split(Join(empty...)); !slices.Equal(got, empty) {
		t.Errorf("%s", tell(got))
	}
}

// roomy is l with much spare room behind it.
func roomy(l ...string) []string {
	return slices.Concat(l, slices.Repeat([]string{"S:spare"}, 2*len(l)+20))[:len(l)]
}

// P16.4, W6: what is handed in is not changed, nor its spare room.
func TestNotChanged(t *testing.T) {
	for _, l := range [][]string{nil, {"F"}, {"F X", "L:X"}, {"R←X (F OP G) Y;I", "L:", "", "M:", "N:x"}, {"F", "L:", "L:"}, {"F ", "L:"}, {"F", "\xff"}, {"Z:", "A:", "B:", "A:"}} {
		lines := roomy(l...)
		was := slices.Clone(lines[:cap(lines)])
		Labels(lines)
		Right(lines)
		Name(lines)
		Join(lines...)
		if !slices.Equal(lines[:cap(lines)], was) {
			t.Errorf("%q, then %q", was, lines[:cap(lines)])
		}
	}
}

// loose is s in bytes that may be changed.
func loose(s string) (string, []byte) {
	bytes := []byte(s)
	return unsafe.String(unsafe.SliceData(bytes), len(bytes)), bytes
}

// checkKept holds an answer, a copy of which was taken, against that copy, after what was handed in was changed.
func checkKept(t *testing.T, call string, lines, was []string) {
	t.Helper()
	if !slices.Equal(lines, was) {
		t.Errorf("%s: %q, then %q", call, was, lines)
	}
}

// P16.4, W6: what is answered is new memory.
func TestNew(t *testing.T) {
	for _, text := range []string{"F", "F X", "F X\nL:X", "R←X (F OP G) Y;I\nL1:\n\nM∆: N\n:", "F\nL:\nL:"} {
		wants := Split(text)
		lines := roomy(wants...)
		var all [][]byte
		for k, line := range lines {
			s, bytes := loose(line)
			lines[k] = s
			all = append(all, bytes)
		}
		whole, bytes := loose(text)
		all = append(all, bytes)
		labels, name, joined, split := Labels(lines), Name(lines), Join(lines...), Split(whole)
		single := Join(lines[0])
		wantLabels, wantName := Labels(wants), Name(wants)
		for _, bytes := range all {
			probe.Fill(bytes, '#')
		}
		probe.Fill(lines, "#")
		checkKept(t, "Labels", labels, wantLabels)
		checkKept(t, "Name", []string{name}, []string{wantName})
		checkKept(t, "Join", []string{joined}, []string{text})
		checkKept(t, "Join of one", []string{single}, wants[:1])
		checkKept(t, "Split", split, wants)
		checkApart(t, split)
		checkApart(t, labels)
	}
}

// checkApart tells if no two texts of a list share memory.
func checkApart(t *testing.T, l []string) {
	t.Helper()
	at := map[uintptr]bool{}
	for _, s := range l {
		from := uintptr(unsafe.Pointer(unsafe.StringData(s)))
		for k := range uintptr(len(s)) {
			if at[from+k] {
				t.Errorf("%q: texts share memory", l)
			}
			at[from+k] = true
		}
	}
}

// P16.4, W2: answers that were changed change no later one.
func TestOnceMore(t *testing.T) {
	lines := []string{"F X", "L:X", "M:"}
	for range 3 {
		labels, split := Labels(lines), Split("a\nb\nc")
		checkKept(t, "Labels", labels, []string{"L", "M"})
		checkKept(t, "Split", split, []string{"a", "b", "c"})
		other, again := Labels(lines), Split("a\nb\nc")
		probe.Fill(labels, "#")
		probe.Fill(split, "#")
		checkKept(t, "Labels", other, []string{"L", "M"})
		checkKept(t, "Split", again, []string{"a", "b", "c"})
		checkRight(t, "F", lines...)
		checkWrong(t, "F X", "X:")
	}
}
