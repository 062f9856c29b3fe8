package system

import (
	"math/big"
	"slices"
	"strconv"
	"strings"
	"testing"
	"time"
	"unsafe"

	"deckle/api"
	"deckle/decimal"
	"deckle/probe"
	"deckle/tight"
)

// six are the names of the system's variables, in order.
var six = []string{"⎕CT", "⎕IO", "⎕LX", "⎕PP", "⎕PW", "⎕RL"}

// others are texts that are no such name.
func others() []string {
	l := []string{"", "⎕", "⎕⎕", "A", "ab1", "∆", "⎕A", "⎕CI", "⎕IT", "⎕PL", "⎕RW", "⎕LO", "⎕AV", "⎕TS", "\xe2", "\xe2\x8e", "\xff\xfe", "\x80IO", "⎕IO ⎕PP", "⎕CT⎕IO", "1", "⎕\u0399O"}
	for _, n := range six {
		bare := strings.TrimPrefix(n, "⎕")
		l = append(l, bare, strings.ToLower(n), strings.ToLower(bare), "⎕"+bare[:1], "⎕"+bare[1:])
		l = append(l, "⎕"+strings.ToLower(bare[:1])+bare[1:], "⎕"+bare[:1]+strings.ToLower(bare[1:]))
		for _, b := range []string{" ", "\x00", "⎕", "A", "\n", "\xff", "0"} {
			l = append(l, b+n, n+b, "⎕"+b+bare, "⎕"+bare[:1]+b+bare[1:])
		}
		l = append(l, n[1:], n[2:], n[:1]+bare, n[:2]+bare)
		for _, sign := range []string{"⍞", "⎔", "⎖", "□", "⌷", "∆", "_", "?", "\xe2\x8e\x96", "\xe2\x8e\x94", "\xe2\x8f\x95", "\xe3\x8e\x95"} {
			l = append(l, sign+bare)
		}
	}
	return l
}

// turned are all names of which one byte is another one.
func turned() []string {
	var l []string
	for _, n := range six {
		for at := range len(n) {
			for b := range 256 {
				if byte(b) != n[at] {
					l = append(l, n[:at]+string([]byte{byte(b)})+n[at+1:])
				}
			}
		}
	}
	// Some of these are names still: the one byte made another one of the six.
	return slices.DeleteFunc(l, func(s string) bool { return slices.Contains(six, s) })
}

// dec is man times 10^exp.
func dec(man, exp int) api.Dec { return api.Dec{Man: man, Exp: exp} }

// one is the tight array of a whole number alone.
func one(n int) []api.Node {
	if n == 0 || n == 1 {
		return probe.Bools(nil, n)
	}
	return probe.Ints(nil, n)
}

// exact is the array of a Dec alone, as KindDec.
func exact(d api.Dec) []api.Node { return probe.Decs(nil, d) }

// tell is an array, to be read.
func tell(a []api.Node) string {
	list := func(l []int) string {
		if len(l) > 8 {
			return strconv.Itoa(len(l)) + " of them"
		}
		s := make([]string, len(l))
		for k, n := range l {
			s[k] = strconv.Itoa(n)
		}
		return strings.Join(s, " ")
	}
	var s []string
	for _, n := range a[:min(len(a), 5)] {
		var decs []string
		for _, d := range n.Decs[:min(len(n.Decs), 5)] {
			decs = append(decs, strconv.Itoa(d.Man)+"E"+strconv.Itoa(d.Exp))
		}
		s = append(s, "{"+strconv.Itoa(n.Kind)+" ["+list(n.Shape)+"] ["+list(n.Ints)+"] ["+strings.Join(decs, " ")+"]}")
	}
	return strconv.Itoa(len(a)) + strings.Join(s, "")
}

// brief is s, or its front and how long it is.
func brief(s string) string {
	if len(s) > 100 {
		return strconv.Quote(s[:60]) + ".. of " + strconv.Itoa(len(s))
	}
	return strconv.Quote(s)
}

// check holds Right against what is asked.
func check(t *testing.T, n string, a []api.Node, want bool) {
	t.Helper()
	if Right(n, a) != want {
		t.Errorf("%s, %s: %v is asked", brief(n), tell(a), want)
	}
}

// only holds Right of an array, of each name: true of those names alone.
func only(t *testing.T, a []api.Node, names ...string) {
	t.Helper()
	for _, n := range six {
		check(t, n, a, slices.Contains(names, n))
	}
	for _, n := range []string{"", "IO", "A", "⎕io", "⎕XX"} {
		check(t, n, a, false)
	}
}

// size is 10^n.
func size(n int) *big.Int { return new(big.Int).Exp(big.NewInt(10), big.NewInt(int64(n)), nil) }

// modelAlone is what a number alone is worth, told by its fields alone.
func modelAlone(a []api.Node) (*big.Rat, bool) {
	if len(a) != 1 || len(a[0].Shape) != 0 {
		return nil, false
	}
	switch n := a[0]; {
	case n.Kind == api.KindBool || n.Kind == api.KindInt:
		if len(n.Ints) != 1 || len(n.Decs) != 0 || (n.Kind == api.KindBool) != (n.Ints[0] == 0 || n.Ints[0] == 1) {
			return nil, false
		}
		return new(big.Rat).SetInt64(int64(n.Ints[0])), true
	case n.Kind == api.KindDec:
		if len(n.Ints) != 0 || len(n.Decs) != 1 {
			return nil, false
		}
		d := n.Decs[0]
		if d.Man%10 == 0 || d.Exp < -32768 || d.Exp > 32767 {
			return nil, false
		}
		r := new(big.Rat).SetInt64(int64(d.Man))
		if d.Exp < 0 {
			return r.Quo(r, new(big.Rat).SetInt(size(-d.Exp))), true
		}
		r.Mul(r, new(big.Rat).SetInt(size(d.Exp)))
		// A whole number of 64 bits is tight as another kind alone.
		return r, !r.Num().IsInt64()
	}
	return nil, false
}

// modelText tells if a is signs in a Shape of one number at most, told by its fields alone.
func modelText(a []api.Node) bool {
	if len(a) != 1 || a[0].Kind != api.KindChar || len(a[0].Shape) > 1 || len(a[0].Decs) != 0 {
		return false
	}
	count := 1
	if len(a[0].Shape) == 1 {
		count = a[0].Shape[0]
	}
	none := func(n int) bool { return n < 0 || n >= 0xd800 && n <= 0xdfff || n > 0x10ffff }
	return count == len(a[0].Ints) && count <= 1<<20 && !slices.ContainsFunc(a[0].Ints, none)
}

// modelRight is what Right should answer.
func modelRight(n string, a []api.Node) bool {
	if n == "⎕LX" {
		return modelText(a)
	}
	r, ok := modelAlone(a)
	if !ok {
		return false
	}
	amid := func(least, most *big.Rat) bool { return r.Cmp(least) >= 0 && r.Cmp(most) <= 0 }
	whole := func(least, most int64) bool {
		return r.IsInt() && amid(big.NewRat(least, 1), big.NewRat(most, 1))
	}
	switch n {
	case "⎕CT":
		return amid(new(big.Rat), big.NewRat(1, 100000000))
	case "⎕IO":
		return whole(0, 1)
	case "⎕PP":
		return whole(1, 18)
	case "⎕PW":
		return whole(30, 254)
	case "⎕RL":
		return whole(1, 2147483646)
	}
	return false
}

// P17.1
func TestExample(t *testing.T) {
	check(t, "⎕IO", one(0), true)
	check(t, "⎕IO", one(2), false)
}

// P17.1
func TestRightOfWholeNumbers(t *testing.T) {
	for n, bounds := range map[string][2]int{"⎕CT": {0, 0}, "⎕IO": {0, 1}, "⎕PP": {1, 18}, "⎕PW": {30, 254}, "⎕RL": {1, 2147483646}} {
		least, most := bounds[0], bounds[1]
		for _, v := range []int{least, most, (least + most) / 2} {
			check(t, n, one(v), true)
		}
		for _, v := range []int{least - 1, most + 1, -least - 1, -1, -2, -most - 1, api.MaxInt, api.MaxInt - 1, api.MinInt, api.MinInt + 1, 1 << 31, 1<<31 - 1, 1 << 32, 1<<32 + 1, 1<<32 + 30, -1 << 31} {
			check(t, n, one(v), false)
		}
	}
	only(t, one(0), "⎕CT", "⎕IO")
	only(t, one(1), "⎕IO", "⎕PP", "⎕RL")
	only(t, one(2), "⎕PP", "⎕RL")
	only(t, one(10), "⎕PP", "⎕RL")
	only(t, one(30), "⎕PW", "⎕RL")
	only(t, one(16807), "⎕RL")
	only(t, one(-1))
	for v := -300; v <= 300; v++ {
		for _, n := range six {
			check(t, n, one(v), modelRight(n, one(v)))
		}
	}
}

// P17.1
func TestRightOfKinds(t *testing.T) {
	for _, v := range []int{0, 1, 2, 10, 18, 30, 80, 100, 254, 16807, 1000000, 2147483646} {
		for _, n := range six {
			check(t, n, one(v), modelRight(n, one(v)))
		}
		// Whole numbers as exact ones are not tight, right or not.
		only(t, exact(decimal.Of(v)))
		only(t, exact(dec(v*10, -1)))
		only(t, exact(dec(v*1000, -3)))
		only(t, exact(dec(v, 0)))
		if v > 1 {
			only(t, probe.Bools(nil, v))
		} else {
			only(t, probe.Ints(nil, v))
		}
		// Numbers within a node of KindNest are not tight, nor numbers as signs a number.
		only(t, probe.Nest(nil, one(v)))
		if v < 1<<20 {
			only(t, probe.Chars(nil, v), "⎕LX")
		}
		for _, kind := range []int{0, -1, 6, 1 << 32, api.MinInt, api.MaxInt} {
			only(t, probe.Flat(kind, nil, v))
		}
	}
	for _, d := range []api.Dec{dec(0, 1), dec(0, -8), dec(0, api.MaxExp), dec(0, api.MinExp), dec(10, -9), dec(100, -10), dec(10, -14)} {
		only(t, exact(d))
	}
}

// P17.1
func TestRightOfBrokenNumbers(t *testing.T) {
	within := []api.Dec{dec(1, -8), dec(99, -10), dec(999999999999999999, -26), dec(1, -9), dec(1, -13), dec(9, -9), dec(1, -20), dec(1, api.MinExp), dec(9223372036854775807, api.MinExp), dec(9223372036854775807, -27), dec(9999999999, -18)}
	for _, d := range within {
		only(t, exact(d), "⎕CT")
		only(t, exact(dec(-d.Man, d.Exp)))
	}
	beyond := []api.Dec{dec(11, -9), dec(101, -10), dec(1000000000000000001, -26), dec(2, -8), dec(1, -7), dec(9, -8), dec(1, -1), dec(5, -1), dec(9223372036854775807, -26), dec(1, 19), dec(1, 64), dec(9, 18), dec(1, 31), dec(1, 32), dec(1, api.MaxExp), dec(9223372036854775807, api.MaxExp), dec(api.MinInt+1, api.MaxExp), dec(9223372036854775807, 1)}
	for _, d := range beyond {
		only(t, exact(d))
		only(t, exact(dec(-d.Man, d.Exp)))
	}
	// Between the bounds of the others, and beside them, but not whole.
	for _, d := range []api.Dec{dec(5, -1), dec(15, -1), dec(11, -1), dec(99, -1), dec(105, -1), dec(175, -1), dec(181, -1), dec(295, -1), dec(305, -1), dec(805, -1), dec(2535, -1), dec(2541, -1), dec(168075, -1), dec(21474836455, -1), dec(21474836465, -1), dec(1000000001, -9), dec(999999999, -9), dec(-1, -1)} {
		only(t, exact(d))
	}
	// The least Man has no one that is its size.
	for _, e := range []int{api.MinExp, -27, -26, -8, -1, 0, 1, api.MaxExp} {
		only(t, exact(dec(api.MinInt, e)))
	}
	// Not right: exponents beyond the ends, noughts behind.
	for _, d := range []api.Dec{dec(1, api.MinExp-1), dec(1, api.MaxExp+1), dec(1, api.MinInt), dec(1, api.MaxInt), dec(10, api.MinExp-1), dec(10, api.MinExp), dec(0, 1), dec(0, -1), dec(10, -9), dec(50, -1), dec(-10, -20), dec(1, -1<<32-8), dec(1, -1<<16-8)} {
		only(t, exact(d))
	}
}

// P17.1
func TestRightOfNoNumberAlone(t *testing.T) {
	for _, v := range []int{0, 1, 10, 30, 80, 16807} {
		node := one(v)[0]
		shaped := func(s ...int) []api.Node { return []api.Node{{Kind: node.Kind, Shape: s, Ints: node.Ints}} }
		for _, s := range [][]int{{1}, {1, 1}, {0}, {-1}, {2}, {1, 0}, {1, -1}, {-1, -1}, slices.Repeat([]int{1}, 16), slices.Repeat([]int{1}, 17), {api.MaxInt}, {api.MinInt}} {
			only(t, shaped(s...))
		}
		only(t, probe.Flat(node.Kind, nil))
		only(t, probe.Flat(node.Kind, nil, v, v))
		only(t, probe.Flat(node.Kind, []int{0}))
		only(t, probe.Flat(node.Kind, []int{2}, v, v))
		only(t, append(one(v), one(v)...))
		only(t, append(one(v), api.Node{}))
		only(t, append([]api.Node{{}}, one(v)...))
		only(t, append(one(v), probe.Chars(nil, 'a')...))
		only(t, []api.Node{{Kind: node.Kind, Ints: node.Ints, Decs: []api.Dec{{}}}})
		only(t, []api.Node{{Kind: node.Kind, Decs: []api.Dec{{Man: v}}}})
		only(t, []api.Node{{Kind: api.KindDec, Ints: node.Ints}})
		only(t, []api.Node{{Kind: api.KindNest, Ints: node.Ints}})
		only(t, probe.Nest([]int{1}, one(v)))
		only(t, probe.Nest([]int{2}, one(v), one(v)))
		only(t, probe.Nest(nil, probe.Chars([]int{1}, 'a')))
		only(t, probe.Nest(nil, shaped(1)))
		only(t, probe.Nest([]int{2}, one(v), probe.Chars(nil, 'a')))
		only(t, probe.Wrapped(3, nil, one(v)))
	}
	small := dec(1, -9)
	only(t, exact(small), "⎕CT")
	for _, s := range [][]int{{1}, {1, 1}, {0}, {-1}, {2}} {
		only(t, probe.Decs(s, small))
	}
	only(t, probe.Decs(nil))
	only(t, probe.Decs(nil, small, small))
	only(t, probe.Decs([]int{2}, small, small))
	only(t, append(exact(small), exact(small)...))
	only(t, []api.Node{{Kind: api.KindDec, Ints: []int{0}, Decs: []api.Dec{small}}})
	only(t, probe.Nest(nil, exact(small)))
	only(t, nil)
	only(t, []api.Node{})
	only(t, []api.Node{{}})
	only(t, []api.Node{{Kind: api.KindNest}})
	only(t, probe.Nest([]int{0}))
	only(t, probe.Nest([]int{0, 3}))
}

// P17.1
func TestRightOfSigns(t *testing.T) {
	yes := [][]api.Node{
		probe.Chars(nil, 'a'), probe.Chars(nil, 0), probe.Chars(nil, 1), probe.Chars([]int{0}), probe.Chars([]int{1}, 'a'), probe.Chars([]int{2}, 'a', 'b'),
		probe.Chars([]int{5}, 0, 0xd7ff, 0xe000, 0xffff, 0x10ffff), probe.Chars(nil, 0x10ffff), probe.Chars(nil, 0xd7ff), probe.Chars(nil, 0xe000), probe.Chars([]int{1000}, slices.Repeat([]int{0x2395}, 1000)...),
	}
	for _, a := range yes {
		only(t, a, "⎕LX")
	}
	no := [][]api.Node{
		probe.Chars([]int{1, 1}, 'a'), probe.Chars([]int{0, 0}), probe.Chars([]int{0, 5}), probe.Chars([]int{5, 0}), probe.Chars([]int{2, 2}, 1, 2, 3, 4), probe.Chars([]int{1, 1, 1}, 'a'),
		probe.Chars([]int{1, 0}), probe.Chars(slices.Repeat([]int{1}, 16), 'a'), probe.Chars(slices.Repeat([]int{1}, 17), 'a'),
		probe.Chars(nil, -1), probe.Chars(nil, 0xd800), probe.Chars(nil, 0xdbff), probe.Chars(nil, 0xdc00), probe.Chars(nil, 0xdfff), probe.Chars(nil, 0x110000), probe.Chars(nil, api.MinInt), probe.Chars(nil, api.MaxInt), probe.Chars(nil, 1<<32+'a'),
		probe.Chars([]int{3}, 'a', 0xd800, 'b'), probe.Chars([]int{3}, 'a', 'b', -1), probe.Chars([]int{3}, 0x110000, 'a', 'b'),
		probe.Chars(nil), probe.Chars(nil, 'a', 'b'), probe.Chars([]int{0}, 'a'), probe.Chars([]int{1}), probe.Chars([]int{1}, 'a', 'b'), probe.Chars([]int{2}, 'a'), probe.Chars([]int{-1}), probe.Chars([]int{-1}, 'a'), probe.Chars([]int{api.MaxInt}), probe.Chars([]int{api.MinInt}),
		probe.Ints([]int{0}), probe.Bools([]int{0}), probe.Decs([]int{0}), probe.Ints([]int{1}, 97), probe.Ints([]int{2}, 97, 98), probe.Bools([]int{2}, 0, 1), probe.Decs([]int{1}, dec(1, -1)), probe.Decs(nil, dec(1, -1)),
		probe.Nest([]int{0}), probe.Nest([]int{1}, probe.Chars(nil, 'a')), probe.Nest([]int{2}, probe.Chars(nil, 'a'), probe.Chars(nil, 'b')), probe.Nest(nil, probe.Chars(nil, 'a')), probe.Nest([]int{1}, probe.Chars([]int{2}, 'a', 'b')), probe.Nest(nil, probe.Chars([]int{0})),
		append(probe.Chars([]int{1}, 'a'), probe.Chars([]int{1}, 'a')...), append(probe.Chars(nil, 'a'), api.Node{}), append([]api.Node{{}}, probe.Chars(nil, 'a')...),
		{{Kind: api.KindChar, Shape: []int{1}, Ints: []int{'a'}, Decs: []api.Dec{{}}}}, {{Kind: api.KindChar, Shape: []int{1}, Decs: []api.Dec{{}}}},
	}
	for _, a := range no {
		only(t, a)
	}
}

// telling are nodes that are put together in all ways.
func telling() []api.Node {
	var l []api.Node
	for _, kind := range []int{api.KindBool, api.KindInt, api.KindChar, api.KindDec, api.KindNest, 0, 6} {
		for _, s := range [][]int{nil, {}, {0}, {1}, {2}, {1, 1}, {0, 0}, {-1}} {
			for _, ints := range [][]int{nil, {0}, {1}, {2}, {18}, {80}, {-1}, {0xd800}, {1, 1}} {
				for _, decs := range [][]api.Dec{nil, {dec(0, 0)}, {dec(1, 0)}, {dec(1, -8)}, {dec(11, -9)}, {dec(10, -9)}, {dec(-1, -13)}, {dec(1, -13), dec(1, -13)}} {
					l = append(l, api.Node{Kind: kind, Shape: s, Ints: ints, Decs: decs})
				}
			}
		}
	}
	return l
}

// P17.1
func TestRightAgainstModel(t *testing.T) {
	nodes := telling()
	for _, n := range append(slices.Clone(six), "", "IO", "⎕io") {
		for _, node := range nodes {
			a := []api.Node{node}
			check(t, n, a, modelRight(n, a))
		}
	}
	// Two nodes and three are never right here: none that is right has a second one.
	few := []api.Node{one(0)[0], one(1)[0], one(80)[0], exact(dec(1, -9))[0], probe.Chars(nil, 'a')[0], probe.Chars([]int{1}, 'a')[0], probe.Nest(nil)[0], probe.Nest([]int{1})[0], probe.Nest([]int{2})[0], probe.Nest([]int{0})[0], {}}
	probe.Walk(nil, few, 3, func(a []api.Node) {
		for _, n := range six {
			check(t, n, a, modelRight(n, a))
			if len(a) > 1 {
				check(t, n, a, false)
			}
		}
	})
}

// P17.1
func TestRightOfExponents(t *testing.T) {
	for _, man := range []int{1, -1, 9, 11, 99, 101, 18, 254, 9223372036854775807, -9223372036854775808, 999999999999999999} {
		for e := -60; e <= 40; e++ {
			for _, n := range six {
				check(t, n, exact(dec(man, e)), modelRight(n, exact(dec(man, e))))
			}
		}
		for _, e := range []int{-32768, -32767, 32767, 32766, -32769, 32768} {
			for _, n := range six {
				check(t, n, exact(dec(man, e)), modelRight(n, exact(dec(man, e))))
			}
		}
	}
}

// P17.1, P17.2
func TestOtherNames(t *testing.T) {
	arrays := [][]api.Node{nil, {}, {{}}, one(0), one(1), one(10), one(80), one(16807), one(-1), exact(dec(1, -13)), exact(dec(1, -8)), probe.Chars(nil, 'a'), probe.Chars([]int{0}), probe.Chars([]int{2}, 'a', 'b'), probe.Nest([]int{2}, one(1), probe.Chars(nil, 'a')), probe.Ints([]int{2}, 1, 2)}
	for _, n := range append(others(), turned()...) {
		for _, a := range arrays {
			check(t, n, a, false)
		}
		if a, ok := Default(n); ok || len(a) != 0 {
			t.Errorf("%s has no default: %s, %v", brief(n), tell(a), ok)
		}
	}
}

// defaults are the arrays that the variables have at first.
func defaults() map[string][]api.Node {
	return map[string][]api.Node{
		"⎕CT": {{Kind: api.KindDec, Decs: []api.Dec{{Man: 1, Exp: -13}}}},
		"⎕IO": {{Kind: api.KindBool, Ints: []int{1}}},
		"⎕LX": {{Kind: api.KindChar, Shape: []int{0}}},
		"⎕PP": {{Kind: api.KindInt, Ints: []int{10}}},
		"⎕PW": {{Kind: api.KindInt, Ints: []int{80}}},
		"⎕RL": {{Kind: api.KindInt, Ints: []int{16807}}},
	}
}

// P17.2
func TestDefault(t *testing.T) {
	for n, want := range defaults() {
		a, ok := Default(n)
		if !ok || !probe.Alike(a, want) {
			t.Errorf("%s is %s at first, not %s, %v", n, tell(want), tell(a), ok)
		}
		if !tight.Right(a) {
			t.Errorf("%s at first is not tight: %s", n, tell(a))
		}
		check(t, n, a, true)
		for _, other := range six {
			check(t, other, a, modelRight(other, a))
		}
	}
}

// P17.2
func TestNames(t *testing.T) {
	names := Names()
	if !slices.Equal(names, six) {
		t.Errorf("the names: %q", names)
	}
	if !slices.IsSorted(names) {
		t.Errorf("not in order: %q", names)
	}
	for _, n := range names {
		if strings.Trim(n, "CTILOPRXW") != "\xe2\x8e\x95" {
			t.Errorf("the sign ahead of %q", n)
		}
		if a, ok := Default(n); !ok || len(a) != 1 {
			t.Errorf("%s has a default: %s, %v", n, tell(a), ok)
		}
	}
	var found []string
	for _, first := range "ABCDEFGHIJKLMNOPQRSTUVWXYZ" {
		for _, second := range "ABCDEFGHIJKLMNOPQRSTUVWXYZ" {
			n := "⎕" + string(first) + string(second)
			if _, ok := Default(n); ok {
				found = append(found, n)
			}
		}
	}
	if !slices.Equal(found, six) {
		t.Errorf("have a default: %q", found)
	}
}

// handed are arrays of all kinds.
func handed() [][]api.Node {
	return [][]api.Node{nil, one(1), one(80), exact(dec(1, -13)), exact(dec(10, -9)), probe.Chars([]int{0}), probe.Chars([]int{2}, 'a', 'b'), probe.Chars([]int{1, 1}, 'a'), probe.Ints([]int{2}, 1, 2), probe.Nest([]int{2}, one(1), probe.Chars(nil, 'a')), probe.Nest(nil, one(1)), {{}}}
}

// P17.3
func TestHandedInNotChanged(t *testing.T) {
	for _, a := range handed() {
		for _, n := range append(slices.Clone(six), "", "A") {
			roomy := probe.Roomy(a)
			was := probe.Snapshot(roomy)
			got := Right(n, roomy)
			if !probe.Alike(probe.Snapshot(roomy), was) {
				t.Errorf("Right of %s changed %s", n, tell(a))
			}
			if got != modelRight(n, a) {
				t.Errorf("%s, %s with spare room: %v", n, tell(a), got)
			}
		}
	}
}

// P17.3
func TestHandedInNotKept(t *testing.T) {
	for _, n := range six {
		a, _ := Default(n)
		want := probe.Plain(a)
		check(t, n, a, true)
		probe.Turn(a)
		check(t, n, a, false)
		// Each is asked anew, the same memory too.
		copy(a, probe.Plain(want))
		check(t, n, a, true)
		if later, ok := Default(n); !ok || !probe.Alike(later, want) {
			t.Errorf("%s: an array that was handed in was kept: %s", n, tell(later))
		}
	}
}

// P17.3
func TestNamesHandedInNotKept(t *testing.T) {
	for _, n := range six {
		bytes := []byte(n)
		s := unsafe.String(&bytes[0], len(bytes))
		a, ok := Default(s)
		right := Right(s, a)
		if !ok || !right || string(bytes) != n {
			t.Errorf("%s: %v, %v, %q", n, ok, right, bytes)
		}
		want := probe.Plain(a)
		for k := range bytes {
			bytes[k] = 'x'
		}
		if !probe.Alike(a, want) || !slices.Equal(Names(), six) {
			t.Errorf("%s was kept: %s, %q", n, tell(a), Names())
		}
		if _, ok := Default(s); ok || Right(s, a) {
			t.Errorf("%s is another one now", n)
		}
		check(t, n, a, true)
	}
}

// P17.3
func TestDefaultIsNew(t *testing.T) {
	for n, want := range defaults() {
		a, _ := Default(n)
		b, _ := Default(n)
		if !probe.Apart(a, b) {
			t.Errorf("%s: two answers, or two lists of one, share memory", n)
		}
		probe.Turn(a)
		if !probe.Alike(b, want) {
			t.Errorf("%s: an answer changed with another one: %s", n, tell(b))
		}
		if c, ok := Default(n); !ok || !probe.Alike(c, want) {
			t.Errorf("%s: a later answer changed: %s, %v", n, tell(c), ok)
		}
		check(t, n, want, true)
	}
	var all [][]api.Node
	for _, n := range six {
		a, _ := Default(n)
		all = append(all, a)
	}
	if !probe.Apart(all...) {
		t.Error("the answers of two names share memory")
	}
}

// P17.3
func TestNamesAreNew(t *testing.T) {
	a, b := Names(), Names()
	probe.Fill(a, "changed")
	if !slices.Equal(b, six) {
		t.Errorf("changed with another answer: %q", b)
	}
	probe.Fill(b, "⎕XX")
	if c := Names(); !slices.Equal(c, six) {
		t.Errorf("a later answer changed: %q", c)
	}
	for _, n := range six {
		if d, ok := Default(n); !ok || !Right(n, d) {
			t.Errorf("%s changed with the names", n)
		}
	}
}

// P17.1, P17.2
func TestLarge(t *testing.T) {
	start := time.Now()
	long := strings.Repeat("⎕IO", 1<<22)
	for _, n := range []string{long, long[1:], strings.Repeat("A", 1<<24), "⎕IO" + strings.Repeat(" ", 1<<24)} {
		check(t, n, one(1), false)
		if a, ok := Default(n); ok || len(a) != 0 {
			t.Errorf("%s has no default: %s, %v", brief(n), tell(a), ok)
		}
	}
	most := 1 << 20
	signs := slices.Repeat([]int{'a'}, most+1)
	only(t, probe.Chars([]int{most}, signs[:most]...), "⎕LX")
	only(t, probe.Chars([]int{most + 1}, signs...))
	only(t, probe.Chars([]int{most}, append(signs[:most-1:most-1], -1)...))
	only(t, probe.Chars([]int{1, most}, signs[:most]...))
	only(t, probe.Chars([]int{most, 0}))
	only(t, probe.Ints([]int{most}, signs[:most]...))
	only(t, probe.Ints(nil, signs...))
	only(t, probe.Decs([]int{most}, slices.Repeat([]api.Dec{dec(1, -13)}, most)...))
	only(t, probe.Nest([]int{most - 1}, slices.Repeat(probe.Chars([]int{0}), most-1)))
	only(t, probe.Nest([]int{most - 1}, slices.Repeat(one(1), most-1)))
	only(t, probe.Wrapped(1<<16, nil, one(1)))
	only(t, probe.Wrapped(15, nil, one(1)))
	only(t, []api.Node{{Kind: api.KindChar, Shape: slices.Repeat([]int{1}, 1<<20), Ints: []int{'a'}}})
	if taken := time.Since(start); taken > time.Minute {
		t.Error("too long:", taken)
	}
}
