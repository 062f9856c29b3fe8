package decimal

import (
	"math/big"
	"regexp"
	"strconv"
	"strings"
	"testing"

	"deckle/api"
)

// dec is a Dec.
func dec(man, exp int) api.Dec { return api.Dec{Man: man, Exp: exp} }

// pow is 10^n, of at most 18 noughts.
func pow(n int) int {
	p := 1
	for range n {
		p *= 10
	}
	return p
}

// mans are ordinary Mans, with noughts behind and without, and the edges.
func mans() []int {
	l := []int{
		0, 1, 2, 5, 7, 9, 11, 12, 15, 99, 101, 125, 1001, 123456789,
		10, 20, 100, 110, 1500, 1010, 123000,
		api.MaxInt, api.MaxInt - 1, api.MaxInt - 7, api.MaxInt - 807,
		922337203685477580, 922337203685477581, 922337203685477579, 92233720368547758,
		999999999999999999, 9000000000000000000, 9200000000000000000, 9220000000000000000, 1000000000000000001,
	}
	for n := range 19 {
		l = append(l, pow(n), pow(n)+1, pow(n)-1)
	}
	for _, n := range l[:len(l):len(l)] {
		l = append(l, -n)
	}
	return append(l, api.MinInt, api.MinInt+8)
}

// exps are exponents at the bounds, and about them, and far beyond.
func exps() []int {
	l := []int{0, 1, -1, 2, -2, 17, 18, 19, 20, -17, -18, -19, 300, -300}
	for by := -20; by <= 20; by++ {
		l = append(l, api.MinExp+by, api.MaxExp+by)
	}
	for by := range 20 {
		l = append(l, api.MinInt+by, api.MaxInt-by)
	}
	return append(l, 65536, -65536, 1<<32, -1<<32, 1<<32+1, 1<<63-32768, -1<<62)
}

// decs are all of these together.
func decs() []api.Dec {
	var l []api.Dec
	for _, man := range mans() {
		for _, exp := range exps() {
			l = append(l, dec(man, exp))
		}
	}
	return l
}

// isRight is the chapter's own word of it.
func isRight(d api.Dec) bool {
	if d.Man == 0 {
		return d.Exp == 0
	}
	return d.Man%10 != 0 && d.Exp >= -32768 && d.Exp <= 32767
}

// normed is Norm told otherwise: by Man's decimals, and an exponent that can't wrap round.
func normed(d api.Dec) (api.Dec, bool) {
	if d.Man == 0 {
		return dec(0, 0), true
	}
	all := strconv.Itoa(d.Man)
	kept := strings.TrimRight(all, "0")
	exp := new(big.Int).Add(big.NewInt(int64(d.Exp)), big.NewInt(int64(len(all)-len(kept))))
	if exp.Cmp(big.NewInt(-32768)) < 0 || exp.Cmp(big.NewInt(32767)) > 0 {
		return dec(0, 0), false
	}
	man, _ := strconv.Atoi(kept)
	return dec(man, int(exp.Int64())), true
}

// P6.1: the right Dec that is worth as much.
func TestNorm(t *testing.T) {
	for _, x := range []struct{ given, want api.Dec }{
		{dec(1500, -1), dec(15, 1)}, // the chapter's example
		{dec(15, -1), dec(15, -1)},
		{dec(0, 0), dec(0, 0)},
		{dec(0, 1), dec(0, 0)},
		{dec(0, -32769), dec(0, 0)},
		{dec(0, 32768), dec(0, 0)},
		{dec(0, api.MinInt), dec(0, 0)},
		{dec(0, api.MaxInt), dec(0, 0)},
		{dec(10, 0), dec(1, 1)},
		{dec(-10, 0), dec(-1, 1)},
		{dec(-1200, -2), dec(-12, 0)},
		{dec(1010, 0), dec(101, 1)},
		{dec(pow(18), 0), dec(1, 18)},
		{dec(9*pow(18), -18), dec(9, 0)},
		{dec(-9*pow(18), 0), dec(-9, 18)},
		{dec(api.MaxInt, 5), dec(api.MaxInt, 5)},
		{dec(api.MinInt, -5), dec(api.MinInt, -5)},
		{dec(api.MinInt+8, 0), dec(-92233720368547758, 2)},
		{dec(1, 32767), dec(1, 32767)},
		{dec(1, -32768), dec(1, -32768)},
		{dec(10, 32766), dec(1, 32767)},
		{dec(pow(18), 32749), dec(1, 32767)},
		{dec(10, -32769), dec(1, -32768)},
		{dec(100, -32769), dec(1, -32767)},
		{dec(pow(18), -32786), dec(1, -32768)},
		{dec(-pow(18), -32786), dec(-1, -32768)},
	} {
		if got, ok := Norm(x.given); !ok || got != x.want {
			t.Errorf("%v: %v %t, not %v", x.given, got, ok, x.want)
		}
	}
}

// P6.1: a zero one, false, where no right Dec is worth as much.
func TestNormNone(t *testing.T) {
	for _, d := range []api.Dec{
		dec(1, 32768), dec(-1, 32768), dec(10, 32767), dec(100, 32766), dec(pow(18), 32750), dec(pow(18), 32767),
		dec(1, -32769), dec(-1, -32769), dec(10, -32770), dec(pow(18), -32787), dec(api.MinInt, -32769), dec(api.MaxInt, 32768),
		dec(1, 65536), dec(1, 1<<32), dec(1, -1<<32), dec(1, api.MaxInt), dec(1, api.MinInt),
		dec(10, api.MaxInt), dec(pow(18), api.MaxInt), dec(pow(18), api.MaxInt-17), dec(-pow(18), api.MinInt),
	} {
		if got, ok := Norm(d); ok || got != dec(0, 0) {
			t.Errorf("%v: %v %t", d, got, ok)
		}
		if Right(d) {
			t.Errorf("%v: right", d)
		}
	}
}

// P6.1: all Mans with all exponents, as the models say; what Norm answers is right, and is its own Norm.
func TestNormAll(t *testing.T) {
	for _, d := range decs() {
		got, ok := Norm(d)
		if want, known := normed(d); got != want || ok != known {
			t.Fatalf("%v: %v %t, not %v %t", d, got, ok, want, known)
		}
		if Right(d) != isRight(d) {
			t.Fatalf("%v: right %t", d, Right(d))
		}
		if again, okAgain := Norm(got); ok && (!Right(got) || again != got || !okAgain) {
			t.Fatalf("%v: %v, and then %v %t", d, got, again, okAgain)
		}
	}
}

// P6.1: which are right.
func TestRight(t *testing.T) {
	for _, d := range []api.Dec{dec(0, 0), dec(1, 0), dec(-1, 0), dec(15, -1), dec(101, 3), dec(1, 32767), dec(-1, -32768), dec(api.MaxInt, 32767), dec(api.MinInt, -32768)} {
		if !Right(d) {
			t.Errorf("%v: not right", d)
		}
	}
	for _, d := range []api.Dec{dec(0, 1), dec(0, -1), dec(0, api.MaxInt), dec(0, api.MinInt), dec(10, 0), dec(-10, 0), dec(1500, -1), dec(10, -32769), dec(10, 32766), dec(1, 32768), dec(1, -32769), dec(1, api.MaxInt), dec(1, api.MinInt)} {
		if Right(d) {
			t.Errorf("%v: right", d)
		}
	}
}

// P6.2: whole numbers as right ones, and back.
func TestOf(t *testing.T) {
	for n, want := range map[int]api.Dec{
		0: dec(0, 0), 7: dec(7, 0), -7: dec(-7, 0), 10: dec(1, 1), -1200: dec(-12, 2), 1010: dec(101, 1),
		pow(18): dec(1, 18), -pow(18): dec(-1, 18), 9 * pow(18): dec(9, 18), 92 * pow(17): dec(92, 17),
		api.MaxInt: dec(api.MaxInt, 0), api.MinInt: dec(api.MinInt, 0),
		922337203685477580 * 10: dec(92233720368547758, 2),
	} {
		if got := Of(n); got != want {
			t.Errorf("%d: %v, not %v", n, got, want)
		}
	}
	for _, n := range mans() {
		d := Of(n)
		if back, ok := Whole(d); !Right(d) || back != n || !ok {
			t.Errorf("%d: %v, and back %d %t", n, d, back, ok)
		}
	}
}

// P6.2: 0, false of what is not right, not whole, or too great.
func TestWholeNone(t *testing.T) {
	for _, d := range []api.Dec{
		dec(0, 1), dec(0, -1), dec(0, api.MaxInt), dec(10, 0), dec(-100, 0), dec(1500, -1), dec(10, -1), dec(100, -2), dec(pow(18), -18), // not right
		dec(1, 32768), dec(1, -32769), dec(1, api.MaxInt), dec(1, api.MinInt),
		dec(1, -1), dec(15, -1), dec(-125, -2), dec(api.MaxInt, -1), dec(api.MinInt, -19), dec(1, -32768), // not whole
		dec(922337203685477581, 1), dec(-922337203685477581, 1), dec(92233720368547759, 2), dec(-92233720368547759, 2), // too great by a little
		dec(93, 17), dec(-93, 17), dec(1, 19), dec(-1, 19), dec(2, 19), dec(184467440737095517, 2), dec(1844674407370955163, 1),
		dec(api.MaxInt, 1), dec(api.MinInt, 1), dec(1, 20), dec(1, 64), dec(5, 63), dec(1, 300), dec(3, 32767), dec(api.MinInt, 32767), // too great by many places
	} {
		if n, ok := Whole(d); ok || n != 0 {
			t.Errorf("%v: %d %t", d, n, ok)
		}
	}
}

// P6.2: all Mans with all exponents, by numbers without bounds.
func TestWholeAll(t *testing.T) {
	for _, d := range decs() {
		want, known := 0, false
		if isRight(d) && d.Exp >= 0 && d.Exp < 100 {
			n := new(big.Int).Exp(big.NewInt(10), big.NewInt(int64(d.Exp)), nil)
			n.Mul(n, big.NewInt(int64(d.Man)))
			if n.IsInt64() {
				want, known = int(n.Int64()), true
			}
		}
		if n, ok := Whole(d); n != want || ok != known {
			t.Fatalf("%v: %d %t, not %d %t", d, n, ok, want, known)
		}
	}
}

// P6.3: less, as much, more.
func TestCompare(t *testing.T) {
	for _, x := range []struct {
		a, b api.Dec
		want int
	}{
		{dec(0, 0), dec(0, 0), 0},
		{dec(15, -1), dec(15, -1), 0},
		{dec(1, 0), dec(2, 0), -1},
		{dec(-1, 0), dec(-2, 0), 1},
		{dec(-1, 0), dec(1, 0), -1},
		{dec(0, 0), dec(1, -32768), -1},
		{dec(0, 0), dec(-1, -32768), 1},
		{dec(19, 0), dec(2, 1), -1},
		{dec(21, 0), dec(2, 1), 1},
		{dec(-19, 0), dec(-2, 1), 1},
		{dec(-21, 0), dec(-2, 1), -1},
		{dec(125, -2), dec(13, -1), -1},
		{dec(9, -1), dec(1, 0), -1},
		{dec(99, 0), dec(1, 2), -1},
		{dec(1, 32767), dec(1, -32768), 1},
		{dec(-1, 32767), dec(-1, -32768), -1},
		{dec(1, 32767), dec(-1, -32768), 1},
		{dec(api.MaxInt, -32768), dec(1, 32767), -1},
		{dec(api.MinInt, -32768), dec(-1, 32767), 1},
		{dec(api.MaxInt, 0), dec(api.MinInt, 0), 1},
		{dec(api.MinInt, 0), dec(-api.MaxInt, 0), -1},
		{dec(api.MaxInt, 0), dec(1, 19), -1},
		{dec(api.MinInt, 0), dec(-1, 19), 1},
		{dec(api.MaxInt, 0), dec(922337203685477581, 1), -1},
		{dec(api.MaxInt, 0), dec(92233720368547758, 2), 1},
		{dec(api.MinInt, 0), dec(-922337203685477581, 1), 1},
		{dec(999999999999999999, 32749), dec(1, 32767), -1},
		{dec(1000000000000000001, 32749), dec(1, 32767), 1},
		{dec(-999999999999999999, -32768), dec(-1, -32750), 1},
		{dec(-1000000000000000001, -32768), dec(-1, -32750), -1},
		{dec(api.MaxInt, 32767), dec(9, 32767), 1},
	} {
		if got := Compare(x.a, x.b); got != x.want {
			t.Errorf("%v %v: %d, not %d", x.a, x.b, got, x.want)
		}
		if got := Compare(x.b, x.a); got != -x.want {
			t.Errorf("%v %v: %d, not %d", x.b, x.a, got, -x.want)
		}
	}
}

// P6.3: one that is not right counts as 0, whatever it is worth.
func TestCompareNotRight(t *testing.T) {
	wrong := []api.Dec{dec(10, 0), dec(-10, 0), dec(0, 5), dec(0, -5), dec(0, api.MinInt), dec(1500, -1), dec(-1500, -1), dec(10, -32769), dec(-10, 32766), dec(1, 32768), dec(-1, 32768), dec(1, -32769), dec(-1, -32769), dec(1, api.MaxInt), dec(-1, api.MaxInt), dec(7, api.MinInt), dec(pow(18), api.MaxInt)}
	for _, w := range wrong {
		for _, x := range []struct {
			d    api.Dec
			want int
		}{{dec(0, 0), 0}, {dec(1, -32768), -1}, {dec(-1, -32768), 1}, {dec(1, 0), -1}, {dec(-1, 0), 1}, {dec(api.MaxInt, 32767), -1}, {dec(api.MinInt, 32767), 1}} {
			if got, back := Compare(w, x.d), Compare(x.d, w); got != x.want || back != -x.want {
				t.Errorf("%v %v: %d, back %d, not %d", w, x.d, got, back, x.want)
			}
		}
		for _, v := range wrong {
			if got := Compare(w, v); got != 0 {
				t.Errorf("%v %v: %d", w, v, got)
			}
		}
	}
}

// ranked are Decs, right and not, of which many lie next to each other.
func ranked() []api.Dec {
	l := []api.Dec{dec(0, 0), dec(0, 1), dec(10, 0), dec(-10, 3), dec(1, 32768), dec(-1, -32769), dec(1, api.MaxInt), dec(-3, api.MinInt)}
	for _, man := range []int{1, 2, 9, 11, 19, 21, 99, 101, 125, 999999999999999999, 1000000000000000001, 999999999999999, 92233720368547758, 922337203685477579, 922337203685477581, api.MaxInt, api.MaxInt - 1} {
		for _, exp := range []int{-32768, -32767, -32750, -19, -18, -17, -2, -1, 0, 1, 2, 17, 18, 19, 32749, 32750, 32766, 32767} {
			l = append(l, dec(man, exp), dec(-man, exp))
		}
	}
	return append(l, dec(api.MinInt, -32768), dec(api.MinInt, -1), dec(api.MinInt, 0), dec(api.MinInt, 1), dec(api.MinInt, 32767))
}

// worth is what d is worth, times 10^32768, as Compare counts it.
func worth(d api.Dec) *big.Int {
	if !isRight(d) {
		return new(big.Int)
	}
	n := new(big.Int).Exp(big.NewInt(10), big.NewInt(int64(d.Exp)+32768), nil)
	return n.Mul(n, big.NewInt(int64(d.Man)))
}

// P6.3, P6.5: every pair of many, by numbers without bounds: thus an order, too, in which right ones that are not the same differ.
func TestCompareAll(t *testing.T) {
	l := ranked()
	worths := make([]*big.Int, len(l))
	for i, d := range l {
		worths[i] = worth(d)
	}
	for i, a := range l {
		for k, b := range l {
			got := Compare(a, b)
			if want := worths[i].Cmp(worths[k]); got != want {
				t.Fatalf("%v %v: %d, not %d", a, b, got, want)
			}
			if isRight(a) && isRight(b) && (got == 0) != (a == b) {
				t.Fatalf("%v %v: %d", a, b, got)
			}
		}
	}
}

// P6.5: an order: each is as much as itself, turned round it is turned round, and of three it goes on.
func TestCompareOrder(t *testing.T) {
	var l []api.Dec
	for i, d := range ranked() {
		if i < 8 || i%7 == 0 {
			l = append(l, d)
		}
	}
	for _, a := range l {
		if Compare(a, a) != 0 {
			t.Fatalf("%v: not as much as itself", a)
		}
		for _, b := range l {
			if Compare(a, b) != -Compare(b, a) {
				t.Fatalf("%v %v: %d, %d", a, b, Compare(a, b), Compare(b, a))
			}
			for _, c := range l {
				if Compare(a, b) <= 0 && Compare(b, c) <= 0 && Compare(a, c) > 0 {
					t.Fatalf("%v %v %v", a, b, c)
				}
			}
		}
	}
}

// P6.4: texts of right ones, and back.
func TestTexts(t *testing.T) {
	for s, d := range map[string]api.Dec{
		"15E¯1": dec(15, -1), // the chapter's example
		"0":     dec(0, 0),
		"1":     dec(1, 0),
		"¯1":    dec(-1, 0),
		"9":     dec(9, 0),
		"101":   dec(101, 0),
		"¯12":   dec(-12, 0),
		"1E1":   dec(1, 1),
		"1E10":  dec(1, 10),
		"¯1E¯1": dec(-1, -1),
		"15E1":  dec(15, 1),
		"1E100": dec(1, 100),

		"1E32767":                      dec(1, 32767),
		"1E¯32768":                     dec(1, -32768),
		"9223372036854775807":          dec(api.MaxInt, 0),
		"¯9223372036854775808":         dec(api.MinInt, 0),
		"9223372036854775807E32767":    dec(api.MaxInt, 32767),
		"¯9223372036854775808E¯32768":  dec(api.MinInt, -32768),
		"\xc2\xaf7E\xc2\xaf20":         dec(-7, -20),
		"1000000000000000001E¯18":      dec(1000000000000000001, -18),
		"¯9223372036854775801E¯9":      dec(-9223372036854775801, -9),
		"\xc2\xaf922337203685477581E1": dec(-922337203685477581, 1),
	} {
		if got := Text(d); got != s {
			t.Errorf("%v: %q, not %q", d, got, s)
		}
		if got, ok := Parse(s); !ok || got != d {
			t.Errorf("%q: %v %t, not %v", s, got, ok, d)
		}
	}
}

// P6.4: an empty text of what is not right.
func TestTextNotRight(t *testing.T) {
	for _, d := range []api.Dec{dec(0, 1), dec(0, -1), dec(10, 0), dec(-10, 0), dec(1500, -1), dec(10, -32769), dec(1, 32768), dec(1, -32769), dec(1, api.MaxInt), dec(-1, api.MinInt), dec(0, api.MinInt)} {
		if got := Text(d); got != "" {
			t.Errorf("%v: %q", d, got)
		}
	}
}

// P6.4: a zero one, false of every other text.
func TestParseNone(t *testing.T) {
	for what, l := range map[string][]string{
		"empty":                       {""},
		"noughts ahead":               {"00", "01", "007", "¯01", "1E01", "1E¯01", "1E00", "00E1", "0000000000000000000000001"},
		"noughts behind":              {"10", "100", "¯10", "1500E¯1", "10E1", "10E32767", "10E¯32769", "20E0", "9223372036854775800", "1000000000000000000"},
		"a sign alone":                {"¯", "-", "+", "¯E1", "1E¯", "¯E¯", "1E-", "1E+", "¯¯"},
		"a sign ahead of 0":           {"¯0", "1E¯0", "¯0E1", "¯00", "-0", "+0"},
		"a plain sign":                {"-1", "+1", "-15E¯1", "1E-1", "1E+1", "+1E1", "¯1E-1", "¯-1", "-¯1", "¯+1", "+¯1", "--1", "-9223372036854775808"},
		"two signs":                   {"¯¯1", "1E¯¯1", "¯1¯", "1¯", "1E1¯"},
		"half a sign":                 {"\xc2", "\xaf", "\xc21", "\xaf1", "\xaf\xc21", "1E\xc21", "1E\xaf1", "\xc2\xc2\xaf1", "\xc2\xaf\xaf1", "\xc2\xae1", "\xc2\xb01", "\xc3\xaf1", "1\xc2", "1E1\xaf"},
		"nothing about the E":         {"E", "1E", "¯1E", "0E", "E1", "E¯1", "EE", "1EE1", "1E1E", "E1E1", "1E1E1"},
		"an exponent of 0":            {"1E0", "¯1E0", "0E0", "15E00", "1E¯0"},
		"a 0 with an exponent":        {"0E1", "0E¯1", "0E32767", "0E32768"},
		"an exponent beyond":          {"1E32768", "1E¯32769", "1E65536", "1E¯65536", "1E99999", "1E4294967296", "1E9223372036854775807", "1E¯9223372036854775808", "1E9223372036854775808", "1E18446744073709551616", "1E18446744073709551617"},
		"digits beyond whole numbers": {"9223372036854775808", "¯9223372036854775809", "18446744073709551617", "99999999999999999999", "18446744073709551616", "9223372036854775808E1", "¯9223372036854775809E¯1", "36893488147419103233", strings.Repeat("1", 1000)},
		"bytes ahead or behind":       {" 1", "1 ", "\t1", "1\n", "1\x00", "\x001", "1E 1", "1 E1", "1E1 ", " 1E1", "¯ 1", "1,", "(1)", "1;"},
		"other forms":                 {"1e1", "1.5", "1.", ".5", "1_000", "1_1", "0x1", "0b1", "0o7", "1f", "inf", "Inf", "NaN", "a", "1E1.5", "1/2", "1J2", "1E1_1", "−1", "١", "1̄"},
	} {
		for _, s := range l {
			if got, ok := Parse(s); ok || got != dec(0, 0) {
				t.Errorf("%s: %q: %v %t", what, s, got, ok)
			}
		}
	}
	// W1: long ones end, too.
	for _, s := range []string{strings.Repeat("9", 1<<20), "1E" + strings.Repeat("9", 1<<20), strings.Repeat("0", 1<<20), strings.Repeat("E", 1<<20), strings.Repeat(minus, 1<<20), strings.Repeat("0", 1<<20) + "1"} {
		if got, ok := Parse(s); ok || got != dec(0, 0) {
			t.Errorf("%.10q ..: %v %t", s, got, ok)
		}
	}
}

// grammar is the texts of right ones, but for the bounds.
var grammar = regexp.MustCompile("^(?:0|(\u00af?[0-9]*[1-9])(?:E(\u00af?[1-9][0-9]*))?)$")

// parsed is Parse told otherwise: by the grammar, and numbers without bounds.
func parsed(s string) (api.Dec, bool) {
	parts := grammar.FindStringSubmatch(s)
	if parts == nil || strings.HasPrefix(strings.TrimPrefix(parts[1], "\u00af"), "0") {
		return dec(0, 0), false
	}
	man, exp := new(big.Int), new(big.Int)
	if parts[1] != "" {
		man.SetString(strings.Replace(parts[1], "\u00af", "-", 1), 10)
	}
	if parts[2] != "" {
		exp.SetString(strings.Replace(parts[2], "\u00af", "-", 1), 10)
	}
	if !man.IsInt64() || exp.Cmp(big.NewInt(-32768)) < 0 || exp.Cmp(big.NewInt(32767)) > 0 {
		return dec(0, 0), false
	}
	return dec(int(man.Int64()), int(exp.Int64())), true
}

// sameAsParsed holds Parse against its model.
func sameAsParsed(t *testing.T, s string) {
	t.Helper()
	got, ok := Parse(s)
	if want, known := parsed(s); got != want || ok != known {
		t.Fatalf("%q: %v %t, not %v %t", s, got, ok, want, known)
	}
	if ok && Text(got) != s {
		t.Fatalf("%q: back as %q", s, Text(got))
	}
}

// P6.4, P6.5: every short text of some pieces.
func TestParseAllShort(t *testing.T) {
	pieces := []string{"0", "1", "9", "E", "\u00af", "\xc2", "\xaf", "-", "+"}
	last := []string{""}
	sameAsParsed(t, "")
	for range 5 {
		var next []string
		for _, s := range last {
			for _, p := range pieces {
				sameAsParsed(t, s+p)
				next = append(next, s+p)
			}
		}
		last = next
	}
}

// P6.4, P6.5: texts of right ones with a byte left out, laid in, or turned.
func TestParseNearTexts(t *testing.T) {
	for _, d := range []api.Dec{dec(0, 0), dec(15, -1), dec(-12, 0), dec(1, 32767), dec(-1, -32768), dec(api.MaxInt, 3), dec(api.MinInt, -32768), dec(101, 10)} {
		s := Text(d)
		sameAsParsed(t, s)
		for at := range len(s) + 1 {
			for c := range 256 {
				sameAsParsed(t, s[:at]+string([]byte{byte(c)})+s[at:])
				if at < len(s) {
					sameAsParsed(t, s[:at]+string([]byte{byte(c)})+s[at+1:])
				}
			}
			if at < len(s) {
				sameAsParsed(t, s[:at]+s[at+1:])
			}
		}
	}
}

// P6.4, P6.5: texts and right numbers are each other's: no two have one text, and each comes back.
func TestTextsBack(t *testing.T) {
	whose := map[string]api.Dec{}
	for _, d := range decs() {
		s := Text(d)
		if !isRight(d) {
			if s != "" {
				t.Fatalf("%v: %q", d, s)
			}
			continue
		}
		if was, twice := whose[s]; twice && was != d {
			t.Fatalf("%v and %v: both %q", d, was, s)
		}
		whose[s] = d
		sameAsParsed(t, s)
		if back, ok := Parse(s); !ok || back != d {
			t.Fatalf("%v: %q, back as %v %t", d, s, back, ok)
		}
	}
}

// W1: no call panics at the ends of numbers.
func TestEnds(t *testing.T) {
	ends := []int{api.MinInt, api.MinInt + 1, -1, 0, 1, api.MaxInt - 1, api.MaxInt}
	for _, man := range ends {
		for _, exp := range ends {
			d := dec(man, exp)
			Whole(d)
			Text(d)
			for _, other := range ends {
				Compare(d, dec(other, exp))
				Compare(d, dec(man, other))
			}
		}
	}
}
