package name

import (
	"slices"
	"strconv"
	"strings"
	"testing"
	"unsafe"
)

// The bytes of the chapter's signs, as it tells them.
const (
	sign2206 = "\xe2\x88\x86"
	sign2359 = "\xe2\x8d\x99"
	signAF   = "\xc2\xaf"
	sign2395 = "\xe2\x8e\x95"
)

const (
	greatLetters = "ABCDEFGHIJKLMNOPQRSTUVWXYZ"
	smallLetters = "abcdefghijklmnopqrstuvwxyz"
	digits       = "0123456789"
)

// beginners are the bytes of all signs that begin a name.
func beginners() []string {
	return append(strings.Split(greatLetters+smallLetters+"_", ""), sign2206, sign2359)
}

// goers are the bytes of all signs that go on with a name.
func goers() []string {
	return append(append(beginners(), strings.Split(digits, "")...), signAF)
}

// modelPieces are the signs of the name that s begins with, found by their bytes alone.
func modelPieces(s string) []string {
	var l []string
	wanted := beginners()
	for {
		k := slices.IndexFunc(wanted, func(sign string) bool { return strings.HasPrefix(s, sign) })
		if k < 0 {
			return l
		}
		l, s = append(l, wanted[k]), s[len(wanted[k]):]
		wanted = goers()
	}
}

// checkText holds Right, System and Take against the model, of a text.
func checkText(t *testing.T, s string) {
	t.Helper()
	pieces := modelPieces(s)
	taken := strings.Join(pieces, "")
	right := taken == s && len(pieces) >= 1 && len(pieces) <= 32
	if Right(s) != right {
		t.Fatalf("Right of %q is not %v", s, right)
	}
	if System(s) != slices.Contains(systemNames(), s) {
		t.Fatalf("System of %q", s)
	}
	if a, b := Take(s); a != taken || b != s[len(taken):] {
		t.Fatalf("Take of %q: %q and %q, not %q", s, a, b, taken)
	}
}

// systemNames are the six names of the system.
func systemNames() []string {
	var l []string
	for _, s := range []string{"CT", "IO", "LX", "PP", "PW", "RL"} {
		l = append(l, sign2395+s)
	}
	return l
}

// checkTake tells what Take answers.
func checkTake(t *testing.T, s, taken, left string) {
	t.Helper()
	if a, b := Take(s); a != taken || b != left {
		t.Errorf("Take of %q: %q and %q, not %q and %q", s, a, b, taken, left)
	}
}

func TestExample(t *testing.T) {
	checkTake(t, "ab1+c", "ab1", "+c")
}

func TestRightOrdinary(t *testing.T) {
	for _, s := range []string{
		"A", "z", "_", sign2206, sign2359, "ab1", "A1", "X_Y", "__", "_9", "a" + signAF, "A" + signAF + "1",
		sign2206 + sign2359, sign2206 + "x" + sign2359 + "9", "EACH", "IO", "CT", "camelCase",
	} {
		if !Right(s) {
			t.Errorf("Right of %q is false", s)
		}
		checkText(t, s)
	}
}

func TestRightWrong(t *testing.T) {
	for _, s := range []string{
		"", " ", "A ", " A", "A B", "9", "0A", "1", signAF, signAF + "A", signAF + "1", "A.", "A+B", "A-B", "A'", "a\x00", "\x00", "a\n",
		"\u00e4", "A\u00e4", "\u00c4", "\u03b1", "\u237a", "A\u2190", "\uff21", "A\u0301", "A\u0660", "\U0001d400", "\ufffd", "A\ufffd", "\U0001f600",
		sign2395, sign2395 + "IO", "A" + sign2395, "A\u2207",
	} {
		if Right(s) {
			t.Errorf("Right of %q is true", s)
		}
		checkText(t, s)
	}
}

// TestEverySign lays every sign by itself, as the first one, and behind others.
func TestEverySign(t *testing.T) {
	begin, on := map[string]bool{}, map[string]bool{}
	for _, s := range beginners() {
		begin[s] = true
	}
	for _, s := range goers() {
		on[s] = true
	}
	if len(begin) != 55 || len(on) != 66 {
		t.Fatalf("%d and %d signs", len(begin), len(on))
	}
	for n := range 0x110000 {
		if n >= 0xd800 && n <= 0xdfff {
			continue
		}
		s := string(rune(n))
		if Right(s) != begin[s] || Right(s+"b") != begin[s] {
			t.Fatalf("Right of %x first", n)
		}
		if Right("a"+s) != on[s] || Right(sign2206+s+"1") != on[s] {
			t.Fatalf("Right of %x behind others", n)
		}
		if System(s) || System(sign2395+"I"+s) != (s == "O") {
			t.Fatalf("System of %x", n)
		}
		taken, left := Take("a" + s + "+")
		if want := on[s]; want && (taken != "a"+s || left != "+") || !want && (taken != "a" || left != s+"+") {
			t.Fatalf("Take of %x behind another one: %q and %q", n, taken, left)
		}
		taken, left = Take(s)
		if want := begin[s]; want && (taken != s || left != "") || !want && (taken != "" || left != s) {
			t.Fatalf("Take of %x: %q and %q", n, taken, left)
		}
	}
}

// TestBeside tells the signs right beside those that the chapter names.
func TestBeside(t *testing.T) {
	for _, row := range []struct {
		sign      rune
		begin, on bool
	}{
		{'@', false, false}, {'A', true, true}, {'B', true, true}, {'Y', true, true}, {'Z', true, true}, {'[', false, false},
		{'^', false, false}, {'_', true, true}, {'`', false, false}, {'a', true, true}, {'z', true, true}, {'{', false, false},
		{'/', false, false}, {'0', false, true}, {'9', false, true}, {':', false, false},
		{0x2205, false, false}, {0x2206, true, true}, {0x2207, false, false},
		{0x2358, false, false}, {0x2359, true, true}, {0x235a, false, false},
		{0xae, false, false}, {0xaf, false, true}, {0xb0, false, false},
		{0x2394, false, false}, {0x2395, false, false}, {0x2396, false, false},
		// These have the last bytes, or bits, of signs that are named.
		{0x86, false, false}, {0x99, false, false}, {0x2f, false, false}, {0x6f, true, true},
		{0x141, false, false}, {0x10041, false, false}, {0x12206, false, false}, {0x102206, false, false}, {0x100af, false, false},
	} {
		s := string(row.sign)
		if Right(s) != row.begin || Right(s+"A") != row.begin {
			t.Errorf("%x begins a name: not %v", row.sign, row.begin)
		}
		if Right("A"+s) != row.on || Right("A"+s+"A") != row.on {
			t.Errorf("%x goes on with a name: not %v", row.sign, row.on)
		}
	}
}

// TestLength lays names of about 32 signs, of as many bytes each as there may be, of one kind and mixed.
func TestLength(t *testing.T) {
	mixed := []string{"a", sign2206, signAF, "9", sign2359, "_"}
	for n := range 70 {
		for _, sign := range append(goers(), "mixed") {
			for _, first := range []string{"A", "_", sign2206, sign2359} {
				s := first
				for k := range n {
					if sign == "mixed" {
						s += mixed[k%len(mixed)]
					} else {
						s += sign
					}
				}
				if Right(s) != (n+1 <= 32) {
					t.Fatalf("Right of %q and %d of %q", first, n, sign)
				}
				checkTake(t, s, s, "")
				checkTake(t, s+"+"+s, s, "+"+s)
			}
		}
	}
	for _, s := range []string{
		strings.Repeat("a", 31), strings.Repeat("a", 32), strings.Repeat(sign2206, 31), strings.Repeat(sign2206, 32), strings.Repeat(sign2359, 32),
		"a" + strings.Repeat(signAF, 30), "a" + strings.Repeat(signAF, 31), strings.Repeat("a", 31) + sign2359,
	} {
		if !Right(s) {
			t.Errorf("Right of %q is false", s)
		}
	}
	for _, s := range []string{
		strings.Repeat("a", 33), strings.Repeat(sign2206, 33), "a" + strings.Repeat(signAF, 32), strings.Repeat("a", 32) + sign2359,
		strings.Repeat("a", 32) + "+", strings.Repeat("a", 31) + "+", strings.Repeat("a", 31) + "\xe2", strings.Repeat("a", 32) + "\xe2\x88",
		strings.Repeat("a", 32+256), strings.Repeat("a", 1<<20),
	} {
		if Right(s) {
			t.Errorf("Right of %q is true", s)
		}
	}
}

func TestSystem(t *testing.T) {
	for _, s := range systemNames() {
		if !System(s) || Right(s) {
			t.Errorf("System of %q, or Right", s)
		}
		plain := strings.TrimPrefix(s, sign2395)
		wrong := []string{
			plain, strings.ToLower(s), sign2395 + plain[:1] + strings.ToLower(plain[1:]), sign2395 + strings.ToLower(plain[:1]) + plain[1:],
			sign2395 + sign2395 + plain, s[1:], s[2:], s[:1] + s[3:], s[:2] + s[3:], sign2395 + plain[1:], sign2395 + plain[:1],
			sign2395 + " " + plain, plain + sign2395, sign2395 + plain[1:] + plain[:1] + "X", "@q" + plain, "\u2394" + plain, "\u2396" + plain,
		}
		for _, more := range append(goers(), " ", "\x00", "\xff", sign2395, "+", "\xe2", "\u2190") {
			wrong = append(wrong, s+more, more+s, sign2395+more+plain)
		}
		for _, w := range wrong {
			if System(w) {
				t.Errorf("System of %q is true", w)
			}
			checkText(t, w)
		}
	}
	for _, s := range []string{"", sign2395, "\xe2", "\xe2\x8e", "\xe2IO", "\xe2\x8eIO", sign2395 + "TS", sign2395 + "IOIO", sign2395 + "FC", sign2395 + "CTIO", "A", "I"} {
		if System(s) {
			t.Errorf("System of %q is true", s)
		}
	}
}

// TestSystemLetters goes through all pairs of letters behind the sign.
func TestSystemLetters(t *testing.T) {
	found := 0
	for _, a := range greatLetters + smallLetters {
		for _, b := range greatLetters + smallLetters {
			s := sign2395 + string(a) + string(b)
			checkText(t, s)
			if System(s) {
				found++
			}
		}
	}
	if found != 6 {
		t.Errorf("%d names of the system", found)
	}
}

func TestTake(t *testing.T) {
	long := strings.Repeat("a"+sign2206, 100)
	for _, row := range [][3]string{
		{"", "", ""},
		{"A", "A", ""},
		{"A+B", "A", "+B"},
		{"A B", "A", " B"},
		{"A1_" + sign2206 + signAF + ":x", "A1_" + sign2206 + signAF, ":x"},
		{sign2359 + "9\u21901", sign2359 + "9", "\u21901"},
		{"R\u2190A", "R", "\u2190A"},
		{"a" + sign2395 + "IO", "a", sign2395 + "IO"},
		{sign2395 + "IO", "", sign2395 + "IO"},
		{sign2395, "", sign2395},
		{" A", "", " A"},
		{"+", "", "+"},
		{"1A", "", "1A"},
		{"9", "", "9"},
		{signAF + "1", "", signAF + "1"},
		{signAF, "", signAF},
		{"\u00e4A", "", "\u00e4A"},
		{"A\u00e4B", "A", "\u00e4B"},
		{"A\x00", "A", "\x00"},
		{"A\ufffdB", "A", "\ufffdB"},
		{long, long, ""},
		{long + "." + long, long, "." + long},
		{strings.Repeat("a", 33), strings.Repeat("a", 33), ""},
		{strings.Repeat("a", 1<<20) + "-", strings.Repeat("a", 1<<20), "-"},
	} {
		checkTake(t, row[0], row[1], row[2])
	}
}

// TestTakenWhole: what is a name is taken whole, and what is taken ends only where no sign goes on.
func TestTakenWhole(t *testing.T) {
	seed := uint32(8)
	next := func(n int) int {
		seed = seed*1664525 + 1013904223
		return int(seed>>8) % n
	}
	begin, on := beginners(), goers()
	behind := []string{"", "+", " ", "\u2190", sign2395 + "IO", "\xff", "\xe2\x88", "\xc2", ":x", "\ufffd"}
	for range 20000 {
		s := begin[next(len(begin))]
		for range next(32) {
			s += on[next(len(on))]
		}
		if !Right(s) {
			t.Fatalf("Right of %q is false", s)
		}
		checkTake(t, s, s, "")
		end := behind[next(len(behind))]
		checkTake(t, s+end, s, end)
		cut := (s + end)[:next(len(s+end)+1)]
		checkText(t, cut)
	}
}

// TestWrongBytes lays what is no UTF-8 at the beginning, in the middle and at the end.
func TestWrongBytes(t *testing.T) {
	var wrong []string
	for _, sign := range []string{sign2206, sign2359, signAF, sign2395} {
		for k := 1; k < len(sign); k++ {
			wrong = append(wrong, sign[:k], sign[k:])
		}
		wrong = append(wrong, sign+sign[len(sign)-1:])
	}
	for b := 0x80; b <= 0xff; b++ {
		wrong = append(wrong, string([]byte{byte(b)}))
	}
	// A, af and 2206 in more bytes than they need, and half signs.
	wrong = append(wrong, "\xc1\x81", "\xe0\x81\x81", "\xe0\x82\xaf", "\xf0\x82\x88\x86", "\xf0\x82\x8d\x99", "\xed\xa0\x80", "\xf4\x90\x80\x80", "\xe2\x88\x06", "\xe2\x08\x86", "\xc2\x2f")
	around := []string{"", "A", "a1", "_", "+", " ", "9", sign2206, sign2359, signAF, sign2395, "\ufffd", "\U0001f600", "IO"}
	for _, w := range wrong {
		for _, ahead := range around {
			for _, behind := range around {
				checkText(t, ahead+w+behind)
			}
		}
	}
	for _, w := range wrong[:8] {
		if Right(w) || Right("A"+w) || System(w+"IO") {
			t.Errorf("%q", w)
		}
	}
	checkTake(t, "A\xe2\x88", "A", "\xe2\x88")
	checkTake(t, "A\xe2\x88B", "A", "\xe2\x88B")
	checkTake(t, "A\xe2\x8d"+sign2359, "A", "\xe2\x8d"+sign2359)
	checkTake(t, sign2206+"\x86", sign2206, "\x86")
	checkTake(t, "A\xc2", "A", "\xc2")
	checkTake(t, "\xc2A", "", "\xc2A")
	checkTake(t, "\xe2\x8e", "", "\xe2\x8e")
}

// TestShortTexts goes through all texts of a few pieces, whole signs and cut ones.
func TestShortTexts(t *testing.T) {
	parts := []string{"A", "z", "_", "0", "9", "+", " ", "I", "O", "\xe2", "\x88", "\x86", "\x8d", "\x99", "\x8e", "\x95", "\xc2", "\xaf", sign2206, sign2395, signAF}
	var walk func(s string, left int)
	walk = func(s string, left int) {
		checkText(t, s)
		if left == 0 {
			return
		}
		for _, part := range parts {
			walk(s+part, left-1)
		}
	}
	walk("", 4)
	walk(sign2395, 3)
	walk(strings.Repeat("a", 30), 3)
}

// TestTakeNewMemory: neither piece lies in the memory of the text.
func TestTakeNewMemory(t *testing.T) {
	for _, s := range []string{"ab1+c", "ab1", "+c", strings.Repeat("a", 1000) + strings.Repeat("+", 1000)} {
		s = strings.Clone(s)
		from := uintptr(unsafe.Pointer(unsafe.StringData(s)))
		taken, left := Take(s)
		for _, piece := range []string{taken, left} {
			at := uintptr(unsafe.Pointer(unsafe.StringData(piece)))
			if piece != "" && at >= from && at < from+uintptr(len(s)) {
				t.Errorf("Take of %q: %q lies in it", s, piece)
			}
		}
	}
}

func TestUnlike(t *testing.T) {
	for _, l := range [][]string{
		nil, {}, {""}, {"", ""}, {"", "", "", ""}, {"a"}, {"a", ""}, {"", "a", ""}, {"a", "A"}, {"a", "b", "c"}, {"a", "", "b", "", "c"},
		{"a", "aa", "aaa"}, {"a", "a "}, {" ", ""}, {"\x00", ""}, {"\x00", "\x00\x00"}, {"\xff", "\xfe", "\ufffd"}, {sign2206, sign2359}, {"\xe2", "\xe2\x88", sign2206},
	} {
		if !Unlike(l...) {
			t.Errorf("Unlike of %q is false", l)
		}
	}
	for _, l := range [][]string{
		{"a", "a"}, {"a", "a", "b"}, {"a", "b", "b", "c"}, {"a", "b", "c", "c"}, {"a", "b", "c", "a"}, {"a", "", "a"}, {"", "a", "a"}, {"a", "a", ""},
		{" ", " "}, {"\x00", "\x00"}, {"\xff", "\xff"}, {"\ufffd", "\ufffd"}, {sign2206, "x", sign2206}, {"a", "a", "a"}, {"", "", "x", "", "x", ""},
	} {
		if Unlike(l...) {
			t.Errorf("Unlike of %q is true", l)
		}
	}
	if !Unlike() || Unlike("+c", "ab1", strings.Clone("ab1")) {
		t.Error("Unlike of none, or of two that are the same in other memory")
	}
}

// TestUnlikeAll holds Unlike against pairs, of all short lists.
func TestUnlikeAll(t *testing.T) {
	parts := []string{"", "a", "b", "A", "\xff"}
	var walk func(l []string, left int)
	walk = func(l []string, left int) {
		unlike := true
		for k, a := range l {
			for _, b := range l[:k] {
				unlike = unlike && (a == "" || a != b)
			}
		}
		kept := slices.Clone(l)
		if Unlike(l...) != unlike || !slices.Equal(l, kept) {
			t.Fatalf("Unlike of %q is not %v, or it was changed", l, unlike)
		}
		if left == 0 {
			return
		}
		for _, part := range parts {
			walk(append(slices.Clone(l), part), left-1)
		}
	}
	walk(nil, 5)
}

func TestUnlikeMany(t *testing.T) {
	var l []string
	for n := range 100000 {
		l = append(l, "n"+strconv.Itoa(n), "")
	}
	if !Unlike(l...) {
		t.Error("Unlike of many is false")
	}
	for _, again := range []string{"n0", "n50000", "n99999"} {
		if Unlike(append(l, again)...) {
			t.Errorf("Unlike of many, and %q again, is true", again)
		}
	}
}
