package tight

import (
	"math"
	"math/big"
	"slices"
	"testing"

	"deckle/api"
	"deckle/array"
	"deckle/probe"
)

const most = 1 << 20

// Some numbers: halves, one that is whole beyond the ints, and one that is the least such.
var (
	half   = api.Dec{Man: 5, Exp: -1}
	beyond = api.Dec{Man: 1, Exp: 19}
	over   = api.Dec{Man: 922337203685477581, Exp: 1}
)

// The arrays of one node, and those with kids.
var (
	bools, ints, chars, decs = probe.Bools, probe.Ints, probe.Chars, probe.Decs
	nest, wrapped            = probe.Nest, probe.Wrapped
)

// of is a row of count numbers, all of them n.
func of(count, n int) []int { return slices.Repeat([]int{n}, count) }

// brief is a, or how long it is where it is too long to be told.
func brief(a []api.Node) any {
	if len(a) > 40 || array.Items(a) > 40 {
		return [2]int{len(a), array.Items(a)}
	}
	return a
}

// modelRight tells if d is right.
func modelRight(d api.Dec) bool {
	if d.Man == 0 {
		return d.Exp == 0
	}
	return d.Man%10 != 0 && d.Exp >= -32768 && d.Exp <= 32767
}

// modelWhole is the int that a right d is worth, by numbers of any size.
func modelWhole(d api.Dec) (int, bool) {
	if d.Exp < 0 || d.Exp > 30 {
		return 0, false
	}
	n := new(big.Int).Exp(big.NewInt(10), big.NewInt(int64(d.Exp)), nil)
	n.Mul(n, big.NewInt(int64(d.Man)))
	return int(n.Int64()), n.IsInt64()
}

// modelCount is the product of a right shape's numbers; -1 of one that is not right.
func modelCount(s []int) int {
	product := big.NewInt(1)
	for _, n := range s {
		if n < 0 || n > most {
			return -1
		}
		product.Mul(product, big.NewInt(int64(n)))
	}
	if len(s) > 16 || product.Cmp(big.NewInt(most)) > 0 {
		return -1
	}
	return int(product.Int64())
}

// modelNumbers is the array of the numbers l and the shape s, as the chapter's words tell it.
func modelNumbers(s []int, l []api.Dec) (api.Node, bool) {
	if modelCount(s) != len(l) {
		return api.Node{}, false
	}
	bits, all := true, true
	var whole []int
	for _, d := range l {
		if !modelRight(d) {
			return api.Node{}, false
		}
		n, ok := modelWhole(d)
		whole, all, bits = append(whole, n), all && ok, bits && ok && (n == 0 || n == 1)
	}
	switch {
	case !all:
		return api.Node{Kind: 4, Shape: s, Decs: l}, true
	case bits && len(l) > 0:
		return api.Node{Kind: 1, Shape: s, Ints: whole}, true
	}
	return api.Node{Kind: 2, Shape: s, Ints: whole}, true
}

// modelItems are a node's numbers.
func modelItems(n api.Node) []api.Dec {
	l := slices.Clone(n.Decs)
	for _, i := range n.Ints {
		d := api.Dec{Man: i}
		for d.Man != 0 && d.Man%10 == 0 {
			d = api.Dec{Man: d.Man / 10, Exp: d.Exp + 1}
		}
		l = append(l, d)
	}
	return l
}

// modelMake is the tight form of a, as the chapter's words tell it: from the first node to its kids, and theirs.
func modelMake(a []api.Node) ([]api.Node, bool) {
	if !array.Right(a) {
		return nil, false
	}
	first := a[0]
	if first.Kind == api.KindChar {
		return a, true
	}
	if first.Kind != api.KindNest || modelCount(first.Shape) == 0 {
		n, ok := modelNumbers(first.Shape, modelItems(first))
		return []api.Node{n}, ok
	}
	row, alone := []api.Node{first}, true
	var signs []int
	var numbers []api.Dec
	for _, kid := range array.Kids(a) {
		form, _ := modelMake(kid)
		row, alone = append(row, form...), alone && len(form[0].Shape) == 0 && form[0].Kind != api.KindNest
		if form[0].Kind == api.KindChar {
			signs = append(signs, form[0].Ints...)
		} else {
			numbers = append(numbers, modelItems(form[0])...)
		}
	}
	switch {
	case alone && len(numbers) == 0:
		return chars(first.Shape, signs...), true
	case alone && len(signs) == 0:
		n, ok := modelNumbers(first.Shape, numbers)
		return []api.Node{n}, ok
	}
	return row, true
}

// checkNumbers tells that Numbers answers a node of that kind, which has these Ints, or else l itself.
func checkNumbers(t *testing.T, s []int, l []api.Dec, kind int, whole ...int) {
	t.Helper()
	want := api.Node{Kind: kind, Shape: s, Ints: whole}
	if kind == api.KindDec {
		want.Decs = l
	}
	got, ok := Numbers(s, l)
	if !ok || !probe.Alike([]api.Node{got}, []api.Node{want}) {
		t.Errorf("Numbers of %v and %v: %v, %v, not %v", s, l, got, ok, want)
	}
	if !Right([]api.Node{got}) {
		t.Errorf("Numbers of %v and %v is not tight: %v", s, l, got)
	}
}

// checkNoNumbers tells that Numbers answers a zero node, and false.
func checkNoNumbers(t *testing.T, s []int, l []api.Dec) {
	t.Helper()
	if got, ok := Numbers(s, l); ok || !probe.Alike([]api.Node{got}, make([]api.Node, 1)) {
		t.Errorf("Numbers of %v and %d numbers: %v, %v", s, len(l), got, ok)
	}
}

// checkMake tells that want is the tight form of a, and so of itself.
func checkMake(t *testing.T, a, want []api.Node) {
	t.Helper()
	got, ok := Make(a)
	if !ok || !probe.Alike(got, want) {
		t.Errorf("Make of %v: %v, %v, not %v", brief(a), brief(got), ok, brief(want))
		return
	}
	if Right(a) != probe.Alike(a, want) {
		t.Errorf("Right of %v: %v", brief(a), Right(a))
	}
	if again, ok := Make(got); !ok || !probe.Alike(again, got) || !Right(got) || !array.Right(got) {
		t.Errorf("Make of %v is not tight: %v, and then %v", brief(a), brief(got), brief(again))
	}
	if len(got) > len(a) || array.Items(got) > array.Items(a) || array.Depth(got) > array.Depth(a) {
		t.Errorf("Make of %v is greater: %v", brief(a), brief(got))
	}
	if !slices.Equal(got[0].Shape, a[0].Shape) {
		t.Errorf("Make of %v has another Shape: %v", brief(a), got[0].Shape)
	}
}

// checkTight tells that a is tight.
func checkTight(t *testing.T, a []api.Node) {
	t.Helper()
	checkMake(t, a, a)
	if !Right(a) {
		t.Errorf("Right of %v: false", brief(a))
	}
}

// checkNone tells that a is no right array: it has no tight form, and is none.
func checkNone(t *testing.T, a []api.Node) {
	t.Helper()
	if got, ok := Make(a); ok || len(got) > 0 || Right(a) {
		t.Errorf("Make of %v: %v, %v; Right: %v", brief(a), brief(got), ok, Right(a))
	}
}

// checkModel holds Make and Right of a against the model.
func checkModel(t *testing.T, a []api.Node) {
	t.Helper()
	if want, ok := modelMake(a); ok {
		checkMake(t, a, want)
	} else {
		checkNone(t, a)
	}
}

func TestExamples(t *testing.T) {
	checkMake(t, nest([]int{2}, ints(nil, 3), ints(nil, 1)), ints([]int{2}, 3, 1))
	checkMake(t, nest([]int{2}, ints(nil, 0), ints(nil, 1)), bools([]int{2}, 0, 1))
}

// TestNumbersKinds lays numbers that are bits, that are whole, and that are neither.
func TestNumbersKinds(t *testing.T) {
	dec := func(l ...api.Dec) []api.Dec { return l }
	zero, one := api.Dec{}, api.Dec{Man: 1}
	checkNumbers(t, nil, dec(zero), api.KindBool, 0)
	checkNumbers(t, nil, dec(one), api.KindBool, 1)
	checkNumbers(t, []int{2}, dec(zero, zero), api.KindBool, 0, 0)
	checkNumbers(t, []int{2, 2}, dec(one, zero, zero, one), api.KindBool, 1, 0, 0, 1)
	checkNumbers(t, nil, dec(api.Dec{Man: -1}), api.KindInt, -1)
	checkNumbers(t, nil, dec(api.Dec{Man: 2}), api.KindInt, 2)
	checkNumbers(t, nil, dec(api.Dec{Man: math.MinInt}), api.KindInt, math.MinInt)
	checkNumbers(t, nil, dec(api.Dec{Man: math.MaxInt}), api.KindInt, math.MaxInt)
	checkNumbers(t, []int{4}, dec(one, api.Dec{Man: 1, Exp: 1}, zero, api.Dec{Man: -3, Exp: 2}), api.KindInt, 1, 10, 0, -300)
	checkNumbers(t, nil, dec(api.Dec{Man: 1, Exp: 18}), api.KindInt, 1000000000000000000)
	checkNumbers(t, nil, dec(api.Dec{Man: -922337203685477579, Exp: 1}), api.KindInt, -9223372036854775790)
	// Numbers that are whole, and so great that no int is.
	for _, d := range dec(beyond, over, api.Dec{Man: -1, Exp: 19}, api.Dec{Man: -922337203685477581, Exp: 1}, api.Dec{Man: 1, Exp: 64}, api.Dec{Man: 1, Exp: 32767}, api.Dec{Man: math.MaxInt, Exp: 1}, half, api.Dec{Man: 11, Exp: -1}, api.Dec{Man: 1, Exp: -32768}) {
		checkNumbers(t, nil, dec(d), api.KindDec)
		for _, other := range dec(zero, one, api.Dec{Man: 7}) {
			for _, size := range []int{2, 5} {
				for k := range size {
					l := slices.Repeat(dec(other), size)
					l[k] = d
					checkNumbers(t, []int{size}, l, api.KindDec)
				}
			}
		}
	}
	// One number that is no bit makes all of them whole ones, wherever it stands.
	for _, n := range []int{-1, 2, math.MinInt, math.MaxInt, 1 << 32, 1<<32 + 1} {
		for k := range 5 {
			whole, l := of(5, 1), slices.Repeat(dec(one), 5)
			whole[k], l[k] = n, modelItems(ints(nil, n)[0])[0]
			checkNumbers(t, []int{5}, l, api.KindInt, whole...)
		}
	}
}

// TestNumbersNone lays no numbers at all.
func TestNumbersNone(t *testing.T) {
	for _, s := range [][]int{{0}, {3, 0}, {0, 3}, {0, 0}, of(16, 0), {most, most, 0}} {
		checkNumbers(t, s, nil, api.KindInt)
		checkNumbers(t, s, []api.Dec{}, api.KindInt)
		checkNumbers(t, s, make([]api.Dec, 0, 3), api.KindInt)
		checkNoNumbers(t, s, []api.Dec{{}})
	}
	// A shape of none counts 1.
	for _, s := range [][]int{nil, {}, make([]int, 0, 3), {1}} {
		checkNoNumbers(t, s, nil)
		checkNoNumbers(t, s, []api.Dec{})
		checkNumbers(t, s, []api.Dec{{Man: 4}}, api.KindInt, 4)
		checkNoNumbers(t, s, []api.Dec{{Man: 4}, {Man: 4}})
	}
}

// TestNumbersCount lays as many numbers as the shape counts, one fewer, and one more.
func TestNumbersCount(t *testing.T) {
	for _, s := range [][]int{{2}, {3, 2}, {2, 1, 3}, of(16, 1), append(of(15, 1), 4), {1024, 1024}, {most}} {
		count := modelCount(s)
		for _, d := range []api.Dec{{Man: 1}, {Man: 3}, half} {
			l := slices.Repeat([]api.Dec{d}, count+1)
			checkNoNumbers(t, s, l)
			checkNoNumbers(t, s, l[:count-1])
			got, ok := Numbers(s, l[:count])
			want, _ := modelNumbers(s, l[:count])
			if !ok || !probe.Alike([]api.Node{got}, []api.Node{want}) {
				t.Errorf("Numbers of %v: kind %d, %v", s, got.Kind, ok)
			}
		}
	}
}

// TestNumbersShapes lays shapes that are not right, with numbers of some counts that one may take for theirs.
func TestNumbersShapes(t *testing.T) {
	for _, s := range [][]int{{-1}, {-1, -1}, {-1, 0}, {0, -1}, {-2, -3}, {most + 1}, {0, most + 1}, {most, 2}, {1024, 1025}, of(17, 1), of(17, 0), append(of(16, 1), 2), {math.MinInt}, {math.MaxInt}, {math.MinInt, 2}, {1 << 32, 1 << 32}, of(4, 1<<16)} {
		for _, count := range []int{0, 1, 2, 6, most, most + 1, 1024 * 1025} {
			checkNoNumbers(t, s, make([]api.Dec, count))
		}
	}
}

// TestNumbersWrong lays at each place one that is not right.
func TestNumbersWrong(t *testing.T) {
	for _, wrong := range []api.Dec{{Exp: 1}, {Exp: -1}, {Man: 10}, {Man: -10}, {Man: 1500, Exp: -1}, {Man: 10, Exp: -1}, {Man: 1, Exp: 32768}, {Man: 1, Exp: -32769}, {Exp: math.MaxInt}, {Man: 1, Exp: math.MinInt}} {
		checkNoNumbers(t, nil, []api.Dec{wrong})
		for _, other := range []api.Dec{{}, {Man: 1}, {Man: -8}, half, beyond} {
			for _, size := range []int{1, 2, 5} {
				for k := range size {
					l := slices.Repeat([]api.Dec{other}, size)
					l[k] = wrong
					checkNoNumbers(t, []int{size}, l)
				}
			}
		}
	}
}

// TestAllNumbers holds Numbers against the model, of all short rows of telling numbers.
func TestAllNumbers(t *testing.T) {
	shapes := [][]int{nil, {0}, {1}, {2}, {3}, {4}, {2, 2}, {1, 3}, {3, 0}, {-1}, {-1, -2}}
	probe.Walk(nil, []api.Dec{{}, {Man: 1}, {Man: -1}, {Man: 1, Exp: 1}, half, over, {Man: 10}, {Exp: 1}}, 4, func(l []api.Dec) {
		for _, s := range shapes {
			got, ok := Numbers(s, l)
			want, right := modelNumbers(s, l)
			if ok != right || !probe.Alike([]api.Node{got}, []api.Node{want}) {
				t.Errorf("Numbers of %v and %v: %v, %v, not %v", s, l, got, ok, want)
			}
		}
	})
}

// TestFlat makes arrays of one node tight, of each kind that has items of its own.
func TestFlat(t *testing.T) {
	for _, s := range [][]int{{0}, {3, 0}, of(16, 0)} {
		checkTight(t, ints(s))
		checkTight(t, chars(s))
		checkMake(t, bools(s), ints(s))
		checkMake(t, decs(s), ints(s))
		checkMake(t, nest(s), ints(s))
	}
	for _, s := range [][]int{{4}, {2, 2}, {1, 4, 1}} {
		checkTight(t, bools(s, 0, 1, 1, 0))
		checkTight(t, ints(s, 0, 1, 1, 2))
		checkTight(t, ints(s, -1, 1, 1, 0))
		checkTight(t, chars(s, 0, 1, 'a', 0x10ffff))
		checkTight(t, chars(s, 0, 1, 1, 0))
		checkTight(t, decs(s, half, api.Dec{Man: 1}, api.Dec{}, beyond))
		checkMake(t, ints(s, 0, 1, 1, 0), bools(s, 0, 1, 1, 0))
		checkMake(t, decs(s, api.Dec{}, api.Dec{Man: 1}, api.Dec{}, api.Dec{}), bools(s, 0, 1, 0, 0))
		checkMake(t, decs(s, api.Dec{Man: -1}, api.Dec{Man: 1}, api.Dec{Man: 1, Exp: 2}, api.Dec{}), ints(s, -1, 1, 100, 0))
	}
	for _, s := range [][]int{nil, {}, {1}} {
		for n := range 2 {
			checkTight(t, bools(s, n))
			checkTight(t, chars(s, n))
			checkMake(t, ints(s, n), bools(s, n))
			checkMake(t, decs(s, api.Dec{Man: n}), bools(s, n))
		}
		for _, n := range []int{-1, 2, 10, math.MinInt, math.MaxInt} {
			checkTight(t, ints(s, n))
			checkMake(t, decs(s, modelItems(ints(nil, n)[0])...), ints(s, n))
		}
		for _, d := range []api.Dec{half, beyond, over} {
			checkTight(t, decs(s, d))
		}
	}
}

// TestNest makes arrays with kids tight that stand alone in them.
func TestNest(t *testing.T) {
	two, row := []int{2}, ints([]int{2}, 8, 9)
	checkMake(t, nest(two, bools(nil, 1), bools(nil, 0)), bools(two, 1, 0))
	checkMake(t, nest(two, decs(nil, half), decs(nil, beyond)), decs(two, half, beyond))
	checkMake(t, nest([]int{3, 1}, bools(nil, 1), ints(nil, 7), decs(nil, half)), decs([]int{3, 1}, api.Dec{Man: 1}, api.Dec{Man: 7}, half))
	checkMake(t, nest([]int{3}, decs(nil, half), bools(nil, 0), ints(nil, 20)), decs([]int{3}, half, api.Dec{}, api.Dec{Man: 2, Exp: 1}))
	checkMake(t, nest([]int{3}, decs(nil, api.Dec{Man: 1}), bools(nil, 0), ints(nil, 1)), bools([]int{3}, 1, 0, 1))
	checkMake(t, nest([]int{1, 2}, chars(nil, 'a'), chars(nil, 0)), chars([]int{1, 2}, 'a', 0))
	checkMake(t, nest([]int{1}, chars(nil, 1)), chars([]int{1}, 1))
	checkMake(t, nest(nil, chars(nil, 1)), chars(nil, 1))
	checkMake(t, nest(nil, ints(nil, 1)), bools(nil, 1))
	// Signs and numbers.
	checkTight(t, nest(two, chars(nil, 'a'), ints(nil, 5)))
	checkTight(t, nest(two, bools(nil, 1), chars(nil, 1)))
	checkTight(t, nest([]int{3}, chars(nil, 'a'), decs(nil, half), chars(nil, 'b')))
	checkMake(t, nest([]int{3}, ints(nil, 5), ints(nil, 1), chars(nil, 1)), nest([]int{3}, ints(nil, 5), bools(nil, 1), chars(nil, 1)))
	// Kids with a shape, wherever they stand.
	for _, kid := range [][]api.Node{row, ints([]int{1}, 7), bools([]int{1}, 1), chars([]int{1}, 'a'), chars(of(16, 1), 'a'), ints([]int{0}), chars([]int{0}), decs([]int{1}, half)} {
		checkTight(t, nest(nil, kid))
		checkTight(t, nest([]int{1}, kid))
		for _, other := range [][]api.Node{ints(nil, 5), bools(nil, 0), chars(nil, 'b'), decs(nil, half), kid} {
			checkTight(t, nest(two, kid, other))
			checkTight(t, nest(two, other, kid))
			checkTight(t, nest([]int{3, 1}, other, kid, other))
		}
	}
	// Kids that are made tight in one that stays as it is.
	checkMake(t, nest(two, ints([]int{1}, 1), decs(nil, api.Dec{Man: 2})), nest(two, bools([]int{1}, 1), ints(nil, 2)))
	checkMake(t, nest(two, nest([]int{0}), bools([]int{0, 2})), nest(two, ints([]int{0}), ints([]int{0, 2})))
	checkMake(t, nest(two, nest(two, ints(nil, 1), ints(nil, 0)), nest([]int{1}, chars(nil, 3))), nest(two, bools(two, 1, 0), chars([]int{1}, 3)))
	checkMake(t, nest(two, ints(nil, 4), nest(two, ints(nil, 1), chars(nil, 2))), nest(two, ints(nil, 4), nest(two, bools(nil, 1), chars(nil, 2))))
}

// TestInside makes arrays tight of which the kids are of KindNest.
func TestInside(t *testing.T) {
	two, row, mixed := []int{2}, ints([]int{2}, 8, 9), nest([]int{2}, chars(nil, 'a'), ints(nil, 5))
	for _, kid := range [][]api.Node{nest(nil, row), mixed, nest(nil, mixed), nest([]int{1, 1}, row)} {
		checkTight(t, nest(nil, kid))
		checkTight(t, nest([]int{1}, kid))
		for _, other := range [][]api.Node{ints(nil, 5), chars(nil, 'b'), row, kid} {
			checkTight(t, nest(two, kid, other))
			checkTight(t, nest(two, other, kid))
		}
	}
	// A kid of KindNest without a shape stays one, beside kids that stand alone.
	checkTight(t, nest(two, ints(nil, 3), nest(nil, row)))
	checkTight(t, nest(two, nest(nil, chars([]int{1}, 'x')), chars(nil, 'y')))
	// Kids that stand alone only as they are made tight.
	one := nest(nil, ints(nil, 7))
	checkMake(t, nest(nil, one), ints(nil, 7))
	checkMake(t, nest(two, one, nest(nil, bools(nil, 1))), ints(two, 7, 1))
	checkMake(t, nest(two, ints(nil, 4), one), ints(two, 4, 7))
	checkMake(t, nest(two, nest(nil, nest(nil, chars(nil, 'x'))), chars(nil, 'y')), chars(two, 'x', 'y'))
	checkMake(t, nest(two, nest(nil, chars(nil, 'x')), one), nest(two, chars(nil, 'x'), ints(nil, 7)))
	checkMake(t, nest(two, one, nest([]int{1}, ints(nil, 6))), nest(two, ints(nil, 7), ints([]int{1}, 6)))
	checkMake(t, nest(nil, nest(two, one, nest(nil, one))), nest(nil, ints(two, 7, 7)))
	checkMake(t, nest([]int{3}, nest(nil, decs(nil, half)), nest(nil, ints(nil, 1)), one), decs([]int{3}, half, api.Dec{Man: 1}, api.Dec{Man: 7}))
	checkMake(t, nest(two, mixed, one), append(nest(two, mixed), ints(nil, 7)...))
}

// TestDepth makes arrays tight of each depth, and of more than there may be.
func TestDepth(t *testing.T) {
	row, mixed := ints([]int{2}, 8, 9), nest([]int{2}, chars(nil, 'a'), ints(nil, 5))
	for depth := 1; depth <= 20; depth++ {
		alone := func(a []api.Node) []api.Node { return wrapped(depth-1, nil, a) }
		if depth > 16 {
			checkNone(t, alone(ints(nil, 7)))
			checkNone(t, alone(row))
			checkNone(t, alone(nest([]int{0})))
			checkNone(t, nest([]int{2}, ints(nil, 1), alone(ints(nil, 7))[1:]))
			continue
		}
		// One in one of no shape is nothing more, in all depths.
		checkMake(t, alone(ints(nil, 7)), ints(nil, 7))
		checkMake(t, alone(ints(nil, 1)), bools(nil, 1))
		checkMake(t, alone(chars(nil, 'x')), chars(nil, 'x'))
		checkMake(t, alone(decs(nil, half)), decs(nil, half))
		checkTight(t, alone(row))
		checkTight(t, alone(chars([]int{0})))
		checkMake(t, alone(nest([]int{0})), alone(ints([]int{0})))
		checkMake(t, alone(decs([]int{1}, api.Dec{Man: 1})), alone(bools([]int{1}, 1)))
		if depth == 1 {
			continue
		}
		checkMake(t, wrapped(depth-1, []int{1}, ints(nil, 7)), wrapped(depth-2, []int{1}, ints([]int{1}, 7)))
		checkMake(t, wrapped(depth-1, []int{1, 1}, chars(nil, 7)), wrapped(depth-2, []int{1, 1}, chars([]int{1, 1}, 7)))
		checkMake(t, nest([]int{3}, ints(nil, 3), alone(ints(nil, 7))[1:], ints(nil, 4)), ints([]int{3}, 3, 7, 4))
		checkTight(t, wrapped(depth-2, nil, mixed))
	}
}

// TestWrong lays rows that are no right arrays.
func TestWrong(t *testing.T) {
	for _, a := range [][]api.Node{nil, {}, make([]api.Node, 0, 4), ints(nil, 1)[:0], make([]api.Node, 1), make([]api.Node, 3), nest(nil), nest([]int{1}), slices.Repeat(nest(nil), 1000)} {
		checkNone(t, a)
	}
	wrongs := []api.Node{
		{}, {Kind: 6, Ints: []int{1}}, {Kind: -1}, {Kind: api.KindInt}, {Kind: api.KindInt, Ints: []int{1, 2}}, {Kind: api.KindInt, Ints: []int{1}, Decs: []api.Dec{{}}}, {Kind: api.KindInt, Shape: []int{-1}}, {Kind: api.KindInt, Shape: of(17, 1), Ints: []int{1}},
		{Kind: api.KindBool, Ints: []int{2}}, {Kind: api.KindBool, Ints: []int{-1}}, {Kind: api.KindChar, Ints: []int{-1}}, {Kind: api.KindChar, Ints: []int{0xd800}}, {Kind: api.KindChar, Ints: []int{0x110000}},
		{Kind: api.KindDec, Decs: []api.Dec{{Man: 10}}}, {Kind: api.KindDec, Decs: []api.Dec{{Exp: 1}}}, {Kind: api.KindDec, Ints: []int{1}}, {Kind: api.KindNest, Shape: []int{0}, Ints: []int{1}}, {Kind: api.KindNest, Shape: []int{0}, Decs: []api.Dec{{}}}, {Kind: api.KindNest, Shape: []int{-1}},
	}
	for _, a := range [][]api.Node{
		ints(nil, 7), nest([]int{0}), nest(nil, ints(nil, 7)), nest([]int{3}, ints(nil, 1), ints(nil, 2), ints(nil, 3)), nest([]int{2}, chars(nil, 'a'), chars(nil, 'b')),
		nest([]int{2, 2}, nest([]int{0}), nest(nil, nest([]int{0, 5})), ints([]int{2}, 3, 4), decs(nil, half)), wrapped(15, nil, ints(nil, 7)),
	} {
		checkModel(t, a)
		for k := range a {
			checkNone(t, a[:k])
			for _, wrong := range wrongs {
				b := slices.Clone(a)
				b[k] = wrong
				checkNone(t, b)
			}
		}
		for _, behind := range [][]api.Node{a, ints(nil, 1), nest([]int{0}), nest(nil), make([]api.Node, 1), slices.Repeat(ints(nil, 7), 100)} {
			checkNone(t, slices.Concat(a, behind))
		}
	}
}

// TestGreat makes arrays tight that have 2^20 items, and some that have more.
func TestGreat(t *testing.T) {
	checkTight(t, ints([]int{most}, of(most, 7)...))
	checkMake(t, decs([]int{1024, 1024}, slices.Repeat([]api.Dec{{Man: 1}}, most)...), bools([]int{1024, 1024}, of(most, 1)...))
	checkNone(t, ints([]int{most + 1}, of(most+1, 7)...))
	checkNone(t, nest(nil, ints([]int{most}, of(most, 7)...)))
	half := most / 2
	checkMake(t, nest([]int{half}, slices.Repeat(ints(nil, 7), half)), ints([]int{half}, of(half, 7)...))
	checkMake(t, nest([]int{half}, slices.Repeat(chars(nil, 7), half)), chars([]int{half}, of(half, 7)...))
	checkNone(t, nest([]int{half + 1}, slices.Repeat(ints(nil, 7), half+1)))
	checkTight(t, nest([]int{most}, slices.Repeat(ints([]int{0}), most)))
	checkMake(t, nest([]int{most}, slices.Repeat(nest([]int{0}), most)), nest([]int{most}, slices.Repeat(ints([]int{0}), most)))
	// Many kids in all depths.
	kids := slices.Repeat(ints(nil, 7), half-16)
	checkMake(t, wrapped(14, nil, nest([]int{half - 16}, kids)), wrapped(14, nil, ints([]int{half - 16}, of(half-16, 7)...)))
	checkTight(t, wrapped(14, nil, nest([]int{half - 15}, kids, chars(nil, 'x'))))
}

// TestAllRows holds Make and Right against the model, of all short rows of telling nodes.
func TestAllRows(t *testing.T) {
	count := 0
	see := func(a []api.Node) {
		if array.Right(a) {
			count++
		}
		checkModel(t, a)
	}
	probe.Walk(nil, slices.Concat(ints(nil, 1), ints(nil, 7), chars(nil, 1), decs(nil, half), ints([]int{1}, 1), nest(nil), nest([]int{2}), nest([]int{0})), 5, see)
	probe.Walk(nil, slices.Concat(ints(nil, 2), chars(nil, 'a'), nest(nil), nest([]int{2, 1}), nest([]int{3})), 7, see)
	if count < 2000 {
		t.Errorf("only %d right arrays", count)
	}
}

// samples are arrays that are tight, some that are not, and rows that are no right arrays.
func samples() [][]api.Node {
	two := []int{2}
	return [][]api.Node{
		bools(nil, 1), ints(nil, 1), ints(nil, 7), chars(nil, 'a'), decs(nil, half), decs(nil, api.Dec{Man: 7}), bools(two, 0, 1), ints(two, 0, 1), ints(two, 3, 4), chars(two, 1, 0), decs(two, half, beyond), decs(two, api.Dec{Man: 1, Exp: 1}, api.Dec{}), decs(two, api.Dec{}, api.Dec{Man: 1}),
		bools([]int{0}), ints([]int{0, 4}), chars([]int{3, 0}), decs([]int{0}), nest([]int{0}), nest([]int{2, 0}), nest(nil, ints(nil, 7)), nest(nil, ints(two, 7, 8)), nest(two, ints(nil, 3), ints(nil, 1)), nest(two, decs(nil, half), ints(nil, 1)), nest(two, chars(nil, 'a'), chars(nil, 'b')),
		nest(two, chars(nil, 'a'), ints(nil, 5)), nest(two, chars(nil, 'a'), ints(nil, 1)), nest(two, ints(two, 8, 9), decs(two, half, beyond)), nest([]int{2, 1}, nest(nil, ints(nil, 4)), nest(nil, ints(two, 5, 6))), nest([]int{3}, nest(two, chars(nil, 1), chars(nil, 2)), nest([]int{0}), nest([]int{1}, ints(nil, 1))),
		wrapped(15, nil, ints(nil, 7)), wrapped(15, nil, ints(two, 7, 8)), wrapped(14, []int{1}, nest(two, chars(nil, 1), ints(nil, 7))), wrapped(16, nil, ints(nil, 7)), nil, ints(nil), nest(nil), slices.Repeat(ints(nil, 7), 2),
	}
}

// TestUnchanged: neither what is handed in is changed, nor its spare room, by a call or by turning what it answers.
func TestUnchanged(t *testing.T) {
	for _, was := range samples() {
		a := probe.Roomy(was)
		all := probe.Snapshot(a)
		Right(a)
		form, _ := Make(a)
		if !probe.Alike(probe.Snapshot(a), all) || len(a) != len(was) {
			t.Errorf("Make or Right changed %v", was)
		}
		probe.Turn(form)
		if !probe.Alike(probe.Snapshot(a), all) {
			t.Errorf("turning what Make answers changed %v", was)
		}
	}
	for _, l := range numberSamples() {
		n := probe.Roomy([]api.Node{{Shape: []int{len(l)}, Decs: l}})
		all := probe.Snapshot(n)
		got, _ := Numbers(n[0].Shape, n[0].Decs)
		probe.Turn([]api.Node{got})
		if !probe.Alike(probe.Snapshot(n), all) {
			t.Errorf("Numbers changed %v", l)
		}
	}
}

// numberSamples are rows of numbers of each kind, and rows that are not right.
func numberSamples() [][]api.Dec {
	return [][]api.Dec{nil, {{}}, {{Man: 1}, {}}, {{Man: 2}}, {{Man: 1}, {Man: -4, Exp: 3}, {}}, {half}, {half, beyond}, {{Man: 1}, over, {}}, {{Man: 10}}, {{Man: 1}, {Exp: 1}}}
}

// TestNewMemory: no list of an answer shares memory with what was handed in, nor with another one of the answer.
func TestNewMemory(t *testing.T) {
	for _, was := range samples() {
		a := probe.Roomy(was)
		first, _ := Make(a)
		second, _ := Make(a)
		again, _ := Make(first)
		if !probe.Apart(a, first, second, again) {
			t.Errorf("Make of %v shares memory", was)
		}
	}
	for _, l := range numberSamples() {
		n := probe.Roomy([]api.Node{{Shape: []int{len(l)}, Decs: l}})
		first, _ := Numbers(n[0].Shape, n[0].Decs)
		second, _ := Numbers(n[0].Shape, n[0].Decs)
		if !probe.Apart(n, []api.Node{first}, []api.Node{second}) {
			t.Errorf("Numbers of %v share memory", l)
		}
	}
	// Lists that share memory when they are handed in share none when they are answered.
	two, three := of(2, 2), slices.Repeat([]api.Dec{half}, 4)
	for _, a := range [][]api.Node{
		ints(two[:1], two...), chars(two[:1], two...), nest(two[:1], ints(two[:1], two...), chars(two[:1], two...)), nest(two[:1], slices.Repeat(ints(two[:1], two...), 2)), nest(two, slices.Repeat(decs(two, three...), 4)), nest(two, slices.Repeat(ints(nil, two[0]), 4)), nest(two, slices.Repeat(chars(nil, two[:1]...), 4)), nest(two[:1], chars(nil, two[1:]...), ints(nil, two[1:]...)),
	} {
		form, ok := Make(a)
		if !ok || !probe.Apart(form, []api.Node{{Shape: two, Decs: three}}) {
			t.Errorf("Make of %v shares memory", a)
		}
	}
}

// TestNotKept: what is handed in may be changed later on, and so may what was answered.
func TestNotKept(t *testing.T) {
	for _, was := range samples() {
		a := probe.Roomy(was)
		form, ok := Make(a)
		other, _ := Make(a)
		want := probe.Plain(form)
		right := Right(a)
		probe.Turn(a)
		if !probe.Alike(form, want) {
			t.Errorf("turning %v turned what Make answered", was)
		}
		probe.Turn(other)
		if !probe.Alike(form, want) {
			t.Errorf("turning what Make of %v answered turned what it answered then", was)
		}
		probe.Turn(form)
		if again, still := Make(was); still != ok || !probe.Alike(again, want) || Right(was) != right {
			t.Errorf("Make of %v again: %v, %v", was, again, still)
		}
	}
	for _, l := range numberSamples() {
		s, kept := []int{len(l)}, slices.Clone(l)
		n, _ := Numbers(s, kept)
		want, _ := modelNumbers([]int{len(l)}, l)
		probe.Fill(s, -1)
		probe.Fill(kept, api.Dec{Man: -1})
		if !probe.Alike([]api.Node{n}, []api.Node{want}) {
			t.Errorf("turning %v turned what Numbers answered: %v", l, n)
		}
	}
}
