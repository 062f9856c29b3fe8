package number

import (
	"math"
	"math/big"
	"regexp"
	"slices"
	"strconv"
	"strings"
	"testing"
	"unsafe"

	"deckle/api"
)

// neg is the sign ahead of a number below 0.
const neg = "\xc2\xaf"

// dec is Man times 10^Exp.
func dec(man, exp int) api.Dec { return api.Dec{Man: man, Exp: exp} }

// Some numbers of every kind that are right, and some that are not.
var (
	someInts   = []int{0, 1, -1, 9, 10, -10, 99, 100, -100, 101, 110, 1000000007, 1000000000000000000, -1000000000000000000, 9000000000000000000, math.MaxInt, math.MaxInt - 7, math.MinInt, math.MinInt + 8}
	someDecs   = []api.Dec{{}, {Man: 1}, {Man: -1}, {Man: 1, Exp: 1}, {Man: -15, Exp: -1}, {Man: 15, Exp: 2}, {Man: 101, Exp: -3}, {Man: math.MaxInt, Exp: 1}, {Man: math.MaxInt}, {Man: math.MinInt}, {Man: math.MinInt, Exp: -32768}, {Man: 7, Exp: 32767}, {Man: -7, Exp: 32767}, {Man: 7, Exp: -32768}, {Man: -1, Exp: -32768}, {Man: math.MaxInt, Exp: 32767}, {Man: 1, Exp: 18}, {Man: 1, Exp: 19}}
	wrongDecs  = []api.Dec{{Man: 10}, {Man: -10}, {Man: 100, Exp: -2}, {Man: 0, Exp: 1}, {Man: 0, Exp: -1}, {Man: 1, Exp: 32768}, {Man: 1, Exp: -32769}, {Man: 1, Exp: math.MaxInt}, {Man: 1, Exp: math.MinInt}, {Man: 0, Exp: math.MinInt}, {Man: math.MaxInt - 7, Exp: 0}}
	wholeText  = regexp.MustCompile(`^(0|(¯?)([1-9][0-9]*))$`)
	decText    = regexp.MustCompile(`^(¯?[1-9][0-9]*)E(¯?[1-9][0-9]*)$`)
	pieceFirst = regexp.MustCompile(`^(?:[0-9E]|¯)+`)
)

// modelInt is n's text.
func modelInt(n int) string {
	return strings.ReplaceAll(big.NewInt(int64(n)).String(), "-", neg)
}

// modelDec is a right d's text.
func modelDec(d api.Dec) string {
	if d.Exp == 0 {
		return modelInt(d.Man)
	}
	return modelInt(d.Man) + "E" + modelInt(d.Exp)
}

// modelRight tells if d is right.
func modelRight(d api.Dec) bool {
	if d.Man == 0 {
		return d.Exp == 0
	}
	return d.Man%10 != 0 && d.Exp >= -32768 && d.Exp <= 32767
}

// modelNorm is the right Dec of a whole number.
func modelNorm(n int) api.Dec {
	d := dec(n, 0)
	for d.Man != 0 && d.Man%10 == 0 {
		d = dec(d.Man/10, d.Exp+1)
	}
	return d
}

// modelNumber is what a text says in numbers of any size, ¯ being its sign.
func modelNumber(s string) *big.Int {
	n, ok := new(big.Int).SetString(strings.ReplaceAll(s, neg, "-"), 10)
	if !ok {
		return big.NewInt(0)
	}
	return n
}

// modelOne is the number whose text is s.
func modelOne(s string) (api.Dec, bool) {
	if wholeText.MatchString(s) {
		n := modelNumber(s)
		if !n.IsInt64() {
			return api.Dec{}, false
		}
		return modelNorm(int(n.Int64())), true
	}
	parts := decText.FindStringSubmatch(s)
	if parts == nil {
		return api.Dec{}, false
	}
	man, exp := modelNumber(parts[1]), modelNumber(parts[2])
	if !man.IsInt64() || !exp.IsInt64() {
		return api.Dec{}, false
	}
	d := dec(int(man.Int64()), int(exp.Int64()))
	if !modelRight(d) {
		return api.Dec{}, false
	}
	return d, true
}

// modelRead is Read as the chapter's words tell it.
func modelRead(s string) ([]api.Dec, string, bool) {
	var l []api.Dec
	for {
		text := pieceFirst.FindString(s)
		d, ok := modelOne(text)
		if !ok {
			return nil, "", false
		}
		l = append(l, d)
		s = s[len(text):]
		if s == "" || s[0] != ' ' || !pieceFirst.MatchString(s[1:]) {
			return l, s, true
		}
		s = s[1:]
	}
}

// brief is s, or its front and how long it is.
func brief(s string) string {
	if len(s) > 100 {
		return strconv.Quote(s[:60]) + ".. of " + strconv.Itoa(len(s))
	}
	return strconv.Quote(s)
}

// briefList is l, or how long it is where it is too long to be told.
func briefList(l []api.Dec) any {
	if len(l) > 40 {
		return len(l)
	}
	return l
}

// checkRead checks what Read answers of s.
func checkRead(t *testing.T, s string, want []api.Dec, left string, is bool) {
	t.Helper()
	l, rest, ok := Read(s)
	if !slices.Equal(l, want) || rest != left || ok != is {
		t.Errorf("Read(%s) is %v, %s, %v; it should be %v, %s, %v", brief(s), briefList(l), brief(rest), ok, briefList(want), brief(left), is)
	}
}

// checkModel checks that Read answers of s what the model does.
func checkModel(t *testing.T, s string) {
	t.Helper()
	want, left, is := modelRead(s)
	checkRead(t, s, want, left, is)
}

// checkNone checks that Read answers none of s, alone, as the first, the middle and the last of a row.
func checkNone(t *testing.T, s string) {
	t.Helper()
	for _, row := range []string{s, s + " 1", "1 " + s + " 2", "1E1 2 " + s, s + " x", s + "x", "0 " + s + ")"} {
		checkRead(t, row, nil, "", false)
	}
}

// checkOne checks that Read answers d of s, wherever it stands in a row.
func checkOne(t *testing.T, s string, d api.Dec) {
	t.Helper()
	checkRead(t, s, []api.Dec{d}, "", true)
	checkRead(t, s+" 1", []api.Dec{d, dec(1, 0)}, "", true)
	checkRead(t, "0 "+s+" "+neg+"5x", []api.Dec{{}, d, dec(-5, 0)}, "x", true)
	checkRead(t, "100 "+s+"  1", []api.Dec{dec(1, 2), d}, "  1", true)
}

// checkInts checks what Ints answers.
func checkInts(t *testing.T, want string, l ...int) {
	t.Helper()
	if is := Ints(l...); is != want {
		t.Errorf("Ints(%v) is %s; it should be %s", l, brief(is), brief(want))
	}
}

// checkDecs checks what Decs answers.
func checkDecs(t *testing.T, want string, l ...api.Dec) {
	t.Helper()
	if is := Decs(l...); is != want {
		t.Errorf("Decs(%v) is %s; it should be %s", briefList(l), brief(is), brief(want))
	}
}

// walk calls do with every text of at most size parts.
func walk(parts []string, size int, do func(string)) {
	var grow func(s string, left int)
	grow = func(s string, left int) {
		do(s)
		if left == 0 {
			return
		}
		for _, p := range parts {
			grow(s+p, left-1)
		}
	}
	grow("", size)
}

func TestInts(t *testing.T) { // P12.1
	checkInts(t, "")
	checkInts(t, "", []int{}...)
	checkInts(t, "0", 0)
	checkInts(t, "7", 7)
	checkInts(t, neg+"7", -7)
	checkInts(t, "1 2 3", 1, 2, 3)
	checkInts(t, "0 0", 0, 0)
	checkInts(t, "100 "+neg+"1000 0 10", 100, -1000, 0, 10)
	checkInts(t, neg+"9223372036854775808", math.MinInt)
	checkInts(t, "9223372036854775807", math.MaxInt)
	checkInts(t, "1000000000000000000 9000000000000000000", 1000000000000000000, 9000000000000000000)
	checkInts(t, neg+"9223372036854775808 0 9223372036854775807 "+neg+"1", math.MinInt, 0, math.MaxInt, -1)
}

func TestDecs(t *testing.T) { // P12.1
	checkDecs(t, "")
	checkDecs(t, "", []api.Dec{}...)
	checkDecs(t, "0", dec(0, 0))
	checkDecs(t, "0 0", dec(0, 0), dec(0, 0))
	checkDecs(t, "1E2", dec(1, 2))
	checkDecs(t, "1 "+neg+"2 15E"+neg+"1", dec(1, 0), dec(-2, 0), dec(15, -1))
	checkDecs(t, neg+"15E2 3E32767 3E"+neg+"32768", dec(-15, 2), dec(3, 32767), dec(3, -32768))
	checkDecs(t, neg+"9223372036854775808E"+neg+"32768 9223372036854775807E32767", dec(math.MinInt, -32768), dec(math.MaxInt, 32767))
	checkDecs(t, neg+"9223372036854775808 9223372036854775807", dec(math.MinInt, 0), dec(math.MaxInt, 0))
}

func TestWriteAll(t *testing.T) { // P12.1
	for size := range 4 {
		var ints []string
		for k := range someInts {
			l := slices.Repeat(someInts[k:k+1], size)
			for i := range l {
				l[i] = someInts[(k+i)%len(someInts)]
			}
			ints = ints[:0]
			for _, n := range l {
				ints = append(ints, modelInt(n))
			}
			checkInts(t, strings.Join(ints, " "), l...)
		}
	}
	for _, a := range someDecs {
		checkDecs(t, modelDec(a), a)
		for _, b := range someDecs {
			checkDecs(t, modelDec(a)+" "+modelDec(b), a, b)
		}
	}
}

func TestDecsWrong(t *testing.T) { // P12.1: one that is not right, at each place
	for _, w := range wrongDecs {
		if modelRight(w) {
			continue
		}
		checkDecs(t, "", w)
		for at := range someDecs {
			checkDecs(t, "", slices.Insert(slices.Clone(someDecs), at, w)...)
		}
		checkDecs(t, "", append(slices.Clone(someDecs), w)...)
		checkDecs(t, "", w, w)
	}
}

func TestReadExamples(t *testing.T) { // P12.2
	three := []api.Dec{dec(1, 0), dec(-2, 0), dec(15, -1)}
	checkRead(t, "1 "+neg+"2 15E"+neg+"1 x", three, " x", true)
	checkRead(t, "1 "+neg+"2 15E"+neg+"1", three, "", true)
	checkRead(t, "1 2 3", []api.Dec{dec(1, 0), dec(2, 0), dec(3, 0)}, "", true)
	checkRead(t, "1 2 3@p", []api.Dec{dec(1, 0), dec(2, 0), dec(3, 0)}, "@p", true)
}

func TestReadOne(t *testing.T) { // P12.2
	checkOne(t, "0", dec(0, 0))
	for _, n := range someInts {
		checkOne(t, modelInt(n), modelNorm(n))
	}
	for _, d := range someDecs {
		checkOne(t, modelDec(d), d)
	}
	checkOne(t, "100", dec(1, 2))
	checkOne(t, "1E2", dec(1, 2))
	checkOne(t, neg+"100", dec(-1, 2))
	checkOne(t, neg+"1E2", dec(-1, 2))
	checkOne(t, "1E32767", dec(1, 32767))
	checkOne(t, "1E"+neg+"32768", dec(1, -32768))
	checkOne(t, "1E10", dec(1, 10))
	checkOne(t, "1E"+neg+"100", dec(1, -100))
	checkOne(t, "1000000000000000000", dec(1, 18))
	checkOne(t, "1E19", dec(1, 19))
	checkOne(t, neg+"9223372036854775808", dec(math.MinInt, 0))
	checkOne(t, "9223372036854775807E1", dec(math.MaxInt, 1))
	checkOne(t, "9223372036854775800", dec(92233720368547758, 2))
	checkOne(t, neg+"9223372036854775800", dec(-92233720368547758, 2))
}

func TestReadNoText(t *testing.T) { // P12.2
	for _, s := range []string{"", " ", " 1", "  1", "x", "x 1", "-1", "+1", ".5", "e1", ")", "'", "_1", "\u23741", "\xc2", "\xaf", "\xaf1", "\xc2 1", "\xc21", "\xc2\xb0", "\xff1", "\x001", "\t1", "\n", "\u0661", "\uff11", "A1", "D1", "F1", "/1", ":1"} {
		checkRead(t, s, nil, "", false)
	}
	for _, s := range []string{"00", "01", "007", neg + "01", neg + "00", neg, neg + "0", neg + neg, neg + neg + "1", "1" + neg, "1" + neg + "2", neg + "1" + neg, "E", "E1", "1E", "1E1E1", "1EE1", "EE", "E" + neg + "1", "1E" + neg, "1E0", neg + "1E0", "1E" + neg + "0", "1E01", "1E" + neg + "01", "1E00", "1E1" + neg, "1E" + neg + neg + "1", "10E1", "100E" + neg + "2", neg + "10E1", "0E1", "0E0", "0E" + neg + "1", neg + "0E1", neg + "E1", "01E1", "1E32768", "1E" + neg + "32769", "1E100000", "1E1000000", "1E65536", "1E18446744073709551617", "9223372036854775808", neg + "9223372036854775809", "9223372036854775810", neg + "9223372036854775810", "10000000000000000000", neg + "10000000000000000000", "18446744073709551616", "18446744073709551617", "9223372036854775808E1", neg + "9223372036854775809E1", "100000000000000000000E1", "99999999999999999999999E" + neg + "3", "12345678901234567890123456789012345678901234567890", "00E1", "0" + neg, "1E10E", "5E0", "1E" + neg + "10E", "E0", "E00", neg + "E0", "1E" + neg + "00"} {
		checkNone(t, s)
	}
}

func TestReadManyDigits(t *testing.T) { // P12.2
	nines, noughts := strings.Repeat("9", 1<<20), strings.Repeat("0", 1<<20)
	for _, s := range []string{nines, noughts, "1" + noughts, neg + "1" + noughts, "1E" + nines, "1E1" + noughts, "1E" + noughts, "1E" + neg + nines, strings.Repeat("E", 1<<20), strings.Repeat(neg, 1<<20), neg + noughts, "0" + neg + noughts, "1E1E" + noughts, "1" + strings.Repeat("0", 32767), "1" + strings.Repeat("0", 32768), "1" + strings.Repeat("0", 65536)} {
		checkNone(t, s)
	}
	for n := range 100 {
		s := "1" + strings.Repeat("0", n)
		if n <= 18 {
			checkOne(t, s, dec(1, n))
			checkOne(t, neg+s, dec(-1, n))
		} else {
			checkNone(t, s)
			checkNone(t, neg+s)
		}
	}
}

func TestReadLeft(t *testing.T) { // P12.2: what follows is answered byte by byte
	one := []api.Dec{dec(1, 0)}
	for _, left := range []string{"", " ", "  ", "  2", "   ", " x", " x1", "x", "x 2", "-2", " -2", "\t2", "\n2", "\u00a02", " \t2", ")", "'", "'1", "@p", "\u23742", " \u23742", "\u2374", ".5", " .5", "e5", " e5", "e", "_", " _", "+2", "\xc2", "\xc2x", "\xc2 2", "\xc21", " \xc2", " \xc2x", " \xc22", "\xaf", "\xaf2", " \xaf", " \xaf2", "\xc2\xae", " \xc2\xae", "\xc2\xb0", "\xc3\xaf", " \xc3\xaf", "\xc2\xc2\xaf", " \xc2\xc2\xaf", "\xff", " \xff1", "\x00", "\x00 1", " \x00", "\u0661", " \u0661", "\uff11", " \uff25", "D", "F", "/", ":", " D", " F", " /", " :"} {
		checkRead(t, "1"+left, one, left, true)
		checkRead(t, "100 1"+left, []api.Dec{dec(1, 2), dec(1, 0)}, left, true)
		checkRead(t, neg+"15E"+neg+"1"+left, []api.Dec{dec(-15, -1)}, left, true)
	}
	for _, s := range []string{" E", " E1", " " + neg, " " + neg + "x", " " + neg + " 2", " Ex", " 2 E", neg, "E", "Ex", neg + "x"} {
		checkRead(t, "1"+s, nil, "", false)
		checkRead(t, "3 1"+s, nil, "", false)
	}
}

func TestReadEachByte(t *testing.T) { // P12.2: each byte alone, behind a number, behind a space
	for b := range 256 {
		s := string([]byte{byte(b)})
		for _, row := range []string{s, s + "1", s + " 1", "1" + s, "1" + s + "1", "1 " + s, "1 " + s + "1", "1 2" + s + " 3", "\xc2" + s, "1\xc2" + s, "1 \xc2" + s, "1 \xc2" + s + "1", s + "\xaf1", "1" + s + "\xaf1", "1 " + s + "\xaf1", "1E" + s, "1E" + s + "1"} {
			checkModel(t, row)
		}
	}
}

func TestReadAll(t *testing.T) { // P12.2: every short text
	walk([]string{"0", "1", "E", neg, " ", "x", "\xc2"}, 6, func(s string) { checkModel(t, s) })
	walk([]string{"0", "10", "1E", neg, " ", "E" + neg + "5", "32767", "9223372036854775807"}, 5, func(s string) { checkModel(t, s) })
}

func TestReadKinds(t *testing.T) { // P12.2: each kind in one row, and one that is none at each place
	var texts []string
	var want []api.Dec
	for _, n := range someInts {
		texts, want = append(texts, modelInt(n)), append(want, modelNorm(n))
	}
	for _, d := range someDecs {
		texts, want = append(texts, modelDec(d)), append(want, d)
	}
	checkRead(t, strings.Join(texts, " ")+" x", want, " x", true)
	for at := range len(texts) + 1 {
		for _, none := range []string{"01", "E", neg, "1E0", "10E1", "9223372036854775808"} {
			row := slices.Insert(slices.Clone(texts), at, none)
			checkRead(t, strings.Join(row, " "), nil, "", false)
			checkRead(t, strings.Join(row, " ")+" x", nil, "", false)
		}
		row := slices.Insert(slices.Clone(texts), at, "x")
		if at == 0 {
			checkRead(t, strings.Join(row, " "), nil, "", false)
			continue
		}
		checkRead(t, strings.Join(row, " "), want[:at], " "+strings.Join(row[at:], " "), true)
	}
}

func TestLong(t *testing.T) { // P12.1, P12.2: long rows
	const count = 1 << 20
	ints, decs := make([]int, count), make([]api.Dec, count)
	for k := range ints {
		ints[k] = (k - count/2) * 1000003 * (k%7 + 1)
		decs[k] = modelNorm(ints[k])
	}
	checkRead(t, Ints(ints...)+" )", decs, " )", true)
	checkRead(t, Decs(decs...)+"  1", decs, "  1", true)
	checkRead(t, Ints(ints...)+" E", nil, "", false)
	checkDecs(t, "", append(decs, dec(10, 0))...)
	long := strings.Repeat("x 1 ", count)
	checkRead(t, "1 "+long, []api.Dec{dec(1, 0)}, " "+long, true)
}

func TestBack(t *testing.T) { // P12.4: what was written is read as it was
	follows := []string{"", "x", ")", "'", "\u2374", "@p", "\xc2", "\xaf", "\xff 1", "-1", "\n"}
	for _, left := range follows {
		for at := range someInts {
			for end := at + 1; end <= len(someInts); end++ {
				var want []api.Dec
				for _, n := range someInts[at:end] {
					want = append(want, modelNorm(n))
				}
				checkRead(t, Ints(someInts[at:end]...)+left, want, left, true)
			}
		}
		for at := range someDecs {
			for end := at + 1; end <= len(someDecs); end++ {
				checkRead(t, Decs(someDecs[at:end]...)+left, someDecs[at:end], left, true)
			}
		}
	}
}

// roomy is l with spare room behind it, which is filled.
func roomy[T any](l []T, fill T) []T {
	wide := append(slices.Clone(l), fill, fill, fill)
	return wide[:len(l)]
}

func TestUnchanged(t *testing.T) { // P12.3, W6: what is handed in is neither changed, nor its spare room, nor kept
	ints, decs := roomy(someInts, 77), roomy(someDecs, dec(77, 7))
	wideInts, wideDecs := slices.Clone(ints[:cap(ints)]), slices.Clone(decs[:cap(decs)])
	first, second := Ints(ints...), Decs(decs...)
	wrong := roomy(wrongDecs, dec(77, 7))
	wideWrong := slices.Clone(wrong[:cap(wrong)])
	Decs(wrong...)
	if !slices.Equal(ints[:cap(ints)], wideInts) || !slices.Equal(decs[:cap(decs)], wideDecs) || !slices.Equal(wrong[:cap(wrong)], wideWrong) {
		t.Error("a list that was handed in is changed")
	}
	saidFirst, saidSecond := strings.Clone(first), strings.Clone(second)
	clear(ints[:cap(ints)])
	clear(decs[:cap(decs)])
	if first != saidFirst || second != saidSecond {
		t.Error("what was answered hangs on what was handed in")
	}
	if Ints(someInts...) != first || Decs(someDecs...) != second {
		t.Error("a second call answers something else")
	}
}

func TestNew(t *testing.T) { // P12.3, W6: what is answered is new memory
	bytes := []byte("1 2 300 x and more")
	s := unsafe.String(&bytes[0], len(bytes))
	l, rest, ok := Read(s)
	again, restAgain, _ := Read(s)
	if !ok || rest != " x and more" {
		t.Fatalf("Read is %v, %q, %v", l, rest, ok)
	}
	for k := range bytes {
		bytes[k] = '7'
	}
	if rest != " x and more" || restAgain != " x and more" {
		t.Errorf("what follows is the argument's memory: %q", rest)
	}
	for k := range l[:cap(l)] {
		l[:cap(l)][k] = dec(9, 9)
	}
	if !slices.Equal(again, []api.Dec{dec(1, 0), dec(2, 0), dec(3, 2)}) {
		t.Errorf("two answers share memory: %v", again)
	}
	checkRead(t, "1 2 300 x", []api.Dec{dec(1, 0), dec(2, 0), dec(3, 2)}, " x", true)
}
