package array

import (
	"math"
	"reflect"
	"slices"
	"testing"

	"deckle/api"
)

const most = 1 << 20

// of is a row of count numbers, all of them n.
func of(count, n int) []int { return slices.Repeat([]int{n}, count) }

// one is a row of one node.
func one(n api.Node) []api.Node { return []api.Node{n} }

// ints is an array of whole numbers.
func ints(shape []int, l ...int) []api.Node {
	return one(api.Node{Kind: api.KindInt, Shape: shape, Ints: l})
}

// bools is an array of bits.
func bools(shape []int, l ...int) []api.Node {
	return one(api.Node{Kind: api.KindBool, Shape: shape, Ints: l})
}

// chars is an array of signs.
func chars(shape []int, l ...int) []api.Node {
	return one(api.Node{Kind: api.KindChar, Shape: shape, Ints: l})
}

// decs is an array of exact numbers.
func decs(shape []int, l ...api.Dec) []api.Node {
	return one(api.Node{Kind: api.KindDec, Shape: shape, Decs: l})
}

// nest is a node of KindNest, and these rows behind it, right or not.
func nest(shape []int, kids ...[]api.Node) []api.Node {
	return slices.Concat(append([][]api.Node{{{Kind: api.KindNest, Shape: shape}}}, kids...)...)
}

// wrapped is a inside as many nodes of KindNest and no numbers.
func wrapped(count int, a []api.Node) []api.Node {
	for range count {
		a = nest(nil, a)
	}
	return a
}

// tree is an array as the chapter's words tell it: its first node, and its kids.
type tree struct {
	node api.Node
	kids []tree
}

// modelCount is the product of a right shape's numbers; -1 of one that is not right.
func modelCount(shape []int) int {
	product := 1.0
	for _, n := range shape {
		if n < 0 || n > most {
			return -1
		}
		product *= float64(n)
	}
	if len(shape) > 16 || product > most {
		return -1
	}
	return int(product)
}

// modelNode tells if the node is right.
func modelNode(n api.Node) bool {
	count := modelCount(n.Shape)
	if count < 0 {
		return false
	}
	wantInts := map[int]int{1: count, 2: count, 3: count, 4: 0, 5: 0}
	wantDecs := map[int]int{1: 0, 2: 0, 3: 0, 4: count, 5: 0}
	if want, known := wantInts[n.Kind]; !known || len(n.Ints) != want || len(n.Decs) != wantDecs[n.Kind] {
		return false
	}
	for _, i := range n.Ints {
		if n.Kind == 1 && i != 0 && i != 1 || n.Kind == 3 && (i < 0 || i > 0x10ffff || i >= 0xd800 && i <= 0xdfff) {
			return false
		}
	}
	for _, d := range n.Decs {
		if d.Man == 0 && d.Exp != 0 || d.Man != 0 && d.Man%10 == 0 || d.Exp < -32768 || d.Exp > 32767 {
			return false
		}
	}
	return true
}

// modelGrow is the array that stands first in a, right or not, and what stands behind it.
func modelGrow(a []api.Node) (tree, []api.Node, bool) {
	if len(a) == 0 || !modelNode(a[0]) {
		return tree{}, nil, false
	}
	r, left := tree{node: a[0]}, a[1:]
	if a[0].Kind == 5 {
		for range modelCount(a[0].Shape) {
			kid, behind, ok := modelGrow(left)
			if !ok {
				return tree{}, nil, false
			}
			r.kids, left = append(r.kids, kid), behind
		}
	}
	return r, left, true
}

// nodes is how many nodes the tree has.
func (r tree) nodes() int {
	n := 1
	for _, kid := range r.kids {
		n += kid.nodes()
	}
	return n
}

// items is how many items all nodes of the tree have.
func (r tree) items() int {
	n := modelCount(r.node.Shape)
	for _, kid := range r.kids {
		n += kid.items()
	}
	return n
}

// depth is the tree's depth.
func (r tree) depth() int {
	n := 0
	for _, kid := range r.kids {
		n = max(n, kid.depth())
	}
	return n + 1
}

// rank is how many numbers the longest Shape has.
func (r tree) rank() int {
	n := len(r.node.Shape)
	for _, kid := range r.kids {
		n = max(n, kid.rank())
	}
	return n
}

// row is the tree's nodes, one behind the other.
func (r tree) row() []api.Node {
	a := one(r.node)
	for _, kid := range r.kids {
		a = append(a, kid.row()...)
	}
	return a
}

// modelFirst is the right array that stands first in a.
func modelFirst(a []api.Node) (tree, bool) {
	r, _, ok := modelGrow(a)
	return r, ok && r.depth() <= 16 && r.items() <= most
}

// plain is a with nil for each empty list, so that it can be compared deeply (W5).
func plain(a []api.Node) []api.Node {
	var row []api.Node
	for _, n := range a {
		row = append(row, api.Node{Kind: n.Kind, Shape: append([]int(nil), n.Shape...), Ints: append([]int(nil), n.Ints...), Decs: append([]api.Dec(nil), n.Decs...)})
	}
	return row
}

// alike tells if a and b are the same, by the library.
func alike(a, b []api.Node) bool { return reflect.DeepEqual(plain(a), plain(b)) }

// brief is a, or its length where it is too long to be told.
func brief(a []api.Node) any {
	total := len(a)
	for _, n := range a[:min(len(a), 50)] {
		total += len(n.Shape) + len(n.Ints) + len(n.Decs)
	}
	if total > 50 {
		return [2]int{len(a), total}
	}
	return a
}

// checkSizes tells what Right, Take, Items, Depth and Rank answer.
func checkSizes(t *testing.T, a []api.Node, right bool, take, items, depth, rank int) {
	t.Helper()
	if got := Right(a); got != right {
		t.Errorf("Right of %v: %v", brief(a), got)
	}
	if got := Take(a); got != take {
		t.Errorf("Take of %v: %d, not %d", brief(a), got, take)
	}
	if got := Items(a); got != items {
		t.Errorf("Items of %v: %d, not %d", brief(a), got, items)
	}
	if got := Depth(a); got != depth {
		t.Errorf("Depth of %v: %d, not %d", brief(a), got, depth)
	}
	if got := Rank(a); got != rank {
		t.Errorf("Rank of %v: %d, not %d", brief(a), got, rank)
	}
}

// checkKids tells what Kids answers.
func checkKids(t *testing.T, a []api.Node, want [][]api.Node) {
	t.Helper()
	if got := Kids(a); !slices.EqualFunc(got, want, alike) {
		t.Errorf("Kids of %v: %v, not %v", brief(a), got, want)
	}
}

// checkRight tells that a is a right array of these sizes.
func checkRight(t *testing.T, a []api.Node, items, depth, rank int) {
	t.Helper()
	checkSizes(t, a, true, len(a), items, depth, rank)
}

// checkWrong tells that neither is a a right array, nor does one stand first in it.
func checkWrong(t *testing.T, a []api.Node) {
	t.Helper()
	checkSizes(t, a, false, 0, 0, 0, 0)
	checkKids(t, a, nil)
}

// checkModel holds all that is asked of one row against the model.
func checkModel(t *testing.T, a []api.Node) {
	t.Helper()
	r, ok := modelFirst(a)
	switch {
	case !ok:
		checkWrong(t, a)
	case r.nodes() < len(a):
		checkSizes(t, a, false, r.nodes(), 0, 0, 0)
		checkKids(t, a, nil)
	default:
		checkRight(t, a, r.items(), r.depth(), r.rank())
		var kids [][]api.Node
		for _, kid := range r.kids {
			kids = append(kids, kid.row())
		}
		checkKids(t, a, kids)
	}
	if got := Copy(a); !alike(got, a) {
		t.Errorf("Copy of %v: %v", brief(a), brief(got))
	}
}

// checkNode tells if an array of that one node is right, alone and as a kid.
func checkNode(t *testing.T, n api.Node, right bool) {
	t.Helper()
	if right != modelNode(n) {
		t.Errorf("the model of %v: %v", n, !right)
	}
	for _, a := range [][]api.Node{one(n), nest([]int{1}, one(n)), nest([]int{3}, ints(nil, 5), one(n), ints(nil, 6)), nest(nil, nest([]int{2}, one(n), one(n)))} {
		if Right(a) != right || Take(a) > 0 != right {
			t.Errorf("Right, Take of %v: %v, %d", brief(a), Right(a), Take(a))
		}
	}
	checkModel(t, one(n))
	// Behind a right array it is of no matter to Take.
	if a := append(ints(nil, 5), n); Right(a) || Take(a) != 1 {
		t.Errorf("Right, Take of %v: %v, %d", brief(a), Right(a), Take(a))
	}
}

func TestExample(t *testing.T) {
	a := nest([]int{2}, ints(nil, 3), ints(nil, 4))
	checkRight(t, a, 4, 2, 1)
	checkKids(t, a, [][]api.Node{ints(nil, 3), ints(nil, 4)})
	if got, ok := Nest([]int{2}, ints(nil, 3), ints(nil, 4)); !ok || !alike(got, a) {
		t.Errorf("Nest: %v, %v", got, ok)
	}
}

func TestOrdinary(t *testing.T) {
	checkRight(t, ints(nil, -7), 1, 1, 0)
	checkRight(t, ints([]int{3}, 1, math.MinInt, math.MaxInt), 3, 1, 1)
	checkRight(t, bools([]int{2, 2}, 0, 1, 1, 0), 4, 1, 2)
	checkRight(t, chars([]int{1, 2, 1}, 'a', 0x2206), 2, 1, 3)
	checkRight(t, decs([]int{2}, api.Dec{Man: 15, Exp: -1}, api.Dec{}), 2, 1, 1)
	checkRight(t, nest([]int{0}), 0, 1, 1)
	checkRight(t, nest(nil, ints([]int{2, 3}, of(6, 4)...)), 7, 2, 2)
	checkRight(t, nest([]int{2, 1}, nest([]int{1}, ints(of(4, 1), 7)), chars(nil, 'x')), 5, 3, 4)
	// The greatest depth and the longest Shape stand in other kids than the last one.
	checkRight(t, nest([]int{3}, ints(of(5, 0)), nest(nil, nest(nil, ints(nil, 1))), bools(nil, 1)), 7, 4, 5)
	checkRight(t, nest(of(6, 1), ints([]int{1}, 1)), 2, 2, 6)
}

func TestKinds(t *testing.T) {
	for _, kind := range []int{0, 6, 7, -1, -5, 1 << 32, 1<<32 + 2, math.MinInt, math.MaxInt, math.MinInt + 2} {
		for _, n := range []api.Node{
			{}, {Ints: []int{1}}, {Decs: []api.Dec{{Man: 1}}}, {Shape: []int{0}}, {Shape: []int{1}, Ints: []int{0}}, {Shape: []int{1}, Decs: []api.Dec{{}}},
		} {
			n.Kind = kind
			checkNode(t, n, false)
		}
	}
}

// TestFill lays of each Kind as many Ints and Decs as items, one fewer, one more, and some of the other ones.
func TestFill(t *testing.T) {
	for _, shape := range [][]int{nil, {}, {1}, {0}, {2}, {3, 2}, {4, 0}, {7}, of(16, 1), of(16, 0)} {
		count := modelCount(shape)
		for kind := 1; kind <= 4; kind++ {
			for nInts := range count + 3 {
				for nDecs := range count + 3 {
					right := nInts == count && nDecs == 0
					if kind == api.KindDec {
						right = nDecs == count && nInts == 0
					}
					checkNode(t, api.Node{Kind: kind, Shape: shape, Ints: of(nInts, 1), Decs: slices.Repeat([]api.Dec{{Man: 3}}, nDecs)}, right)
				}
			}
		}
	}
}

// TestNestFill lays nodes of KindNest with Ints, with Decs, and with neither.
func TestNestFill(t *testing.T) {
	for _, shape := range [][]int{nil, {0}, {1}, {2}, {0, 3}, of(16, 0), of(16, 1)} {
		count := modelCount(shape)
		for nInts := range 4 {
			for nDecs := range 4 {
				a := nest(shape, slices.Repeat(ints(nil, 1), count))
				a[0].Ints, a[0].Decs = of(nInts, 1), slices.Repeat([]api.Dec{{Man: 1}}, nDecs)
				if nInts == 0 && nDecs == 0 {
					checkRight(t, a, 2*count, min(2, count+1), len(shape))
				} else {
					checkWrong(t, a)
				}
				checkModel(t, a)
			}
		}
	}
}

// TestValues lays at each place a number that the Kind has, or has not.
func TestValues(t *testing.T) {
	bit := map[int]bool{math.MinInt: false, -1: false, 0: true, 1: true, 2: false, 1 << 32: false, 1<<32 + 1: false, math.MaxInt: false}
	sign := map[int]bool{
		math.MinInt: false, -0x110000: false, -1: false, 0: true, 1: true, 0x7f: true, 0x80: true, 0xffff: true, 0x10000: true, 0xd7fe: true, 0xd7ff: true, 0xd800: false, 0xd801: false,
		0xdbff: false, 0xdc00: false, 0xdffe: false, 0xdfff: false, 0xe000: true, 0xe001: true, 0x10fffe: true, 0x10ffff: true, 0x110000: false, 0x110001: false, 1 << 32: false, 1<<32 + 65: false, math.MaxInt: false,
	}
	for _, size := range []int{1, 2, 5} {
		for k := range size {
			for _, x := range []struct {
				kind int
				good map[int]bool
			}{{api.KindBool, bit}, {api.KindChar, sign}} {
				for n, right := range x.good {
					l := of(size, 1)
					l[k] = n
					checkNode(t, api.Node{Kind: x.kind, Shape: []int{size}, Ints: l}, right)
					checkNode(t, api.Node{Kind: api.KindInt, Shape: []int{size}, Ints: l}, true)
				}
			}
		}
	}
}

func TestDecs(t *testing.T) {
	for d, right := range map[api.Dec]bool{
		{}: true, {Man: 1}: true, {Man: -1}: true, {Man: 15, Exp: -1}: true, {Man: 1, Exp: 32767}: true, {Man: 1, Exp: -32768}: true, {Man: math.MaxInt, Exp: 32767}: true, {Man: math.MinInt, Exp: -32768}: true, {Man: 9, Exp: 1}: true, {Man: 11}: true,
		{Exp: 1}: false, {Exp: -1}: false, {Man: 10}: false, {Man: -10}: false, {Man: 1500, Exp: -1}: false, {Man: 1, Exp: 32768}: false, {Man: 1, Exp: -32769}: false, {Exp: 32768}: false, {Man: 1, Exp: math.MaxInt}: false, {Man: 1, Exp: math.MinInt}: false, {Man: 10, Exp: math.MaxInt}: false,
	} {
		for _, size := range []int{1, 2, 5} {
			for k := range size {
				l := slices.Repeat([]api.Dec{{Man: 7, Exp: 2}}, size)
				l[k] = d
				checkNode(t, api.Node{Kind: api.KindDec, Shape: []int{size}, Decs: l}, right)
			}
		}
	}
}

func TestShapes(t *testing.T) {
	for _, shape := range [][]int{
		nil, {}, {1}, {5}, {1, 1}, {2, 3}, {0}, {0, 0}, {3, 0}, {0, most, most}, {most, most, 0}, {1024, 1025, 0}, of(15, 1), of(16, 1), of(16, 0), of(15, 0), append(of(15, 1), 3), append([]int{2}, of(15, 1)...), append(of(15, most), 0),
	} {
		count := modelCount(shape)
		checkRight(t, ints(shape, of(count, 9)...), count, 1, len(shape))
		checkRight(t, bools(shape, of(count, 1)...), count, 1, len(shape))
		checkRight(t, chars(shape, of(count, 65)...), count, 1, len(shape))
		checkRight(t, decs(shape, make([]api.Dec, count)...), count, 1, len(shape))
		checkRight(t, nest(shape, slices.Repeat(ints([]int{0}), count)), count, min(2, count+1), max(len(shape), min(count, 1)))
	}
	for _, shape := range [][]int{
		{-1}, {math.MinInt}, {math.MaxInt}, {most + 1}, {0, -1}, {-1, 0}, {0, most + 1}, {-1, -1}, {2, -1}, {most, 2}, {1024, 1025}, of(3, most), {most, most, most, 16}, of(16, 16), of(17, 0), of(17, 1), append(of(16, 1), 0), of(100, 1),
	} {
		for size := range 4 {
			for kind := range 7 {
				checkWrong(t, one(api.Node{Kind: kind, Shape: shape, Ints: of(size, 1)}))
				checkWrong(t, one(api.Node{Kind: kind, Shape: shape, Decs: make([]api.Dec, size)}))
				checkWrong(t, append(one(api.Node{Kind: kind, Shape: shape}), slices.Repeat(ints(nil, 1), size)...))
			}
		}
	}
}

func TestNone(t *testing.T) {
	for _, a := range [][]api.Node{nil, {}, make([]api.Node, 0, 5), ints(nil, 1)[:0]} {
		checkWrong(t, a)
		if got := Copy(a); len(got) != 0 {
			t.Errorf("Copy of none: %v", got)
		}
	}
}

// TestRows lays rows that end too soon, that have nodes left, and of which one is not right, at each place.
func TestRows(t *testing.T) {
	for _, a := range [][]api.Node{
		ints(nil, 1), nest([]int{0}), nest(nil, ints(nil, 1)), nest([]int{3}, ints(nil, 1), chars(nil, 2), bools(nil, 1)), nest([]int{2, 2}, nest([]int{0}), nest(nil, nest([]int{0, 5})), ints([]int{2}, 3, 4), decs(nil, api.Dec{})),
		nest([]int{2}, nest([]int{2}, ints(nil, 1), ints(nil, 2)), nest([]int{2}, ints(nil, 3), ints(nil, 4))), wrapped(15, ints(nil, 1)),
	} {
		checkModel(t, a)
		if !Right(a) {
			t.Errorf("not right: %v", a)
		}
		for k := range a {
			checkWrong(t, a[:k])
			for _, bad := range []api.Node{{}, {Kind: 6}, {Kind: api.KindInt}, {Kind: api.KindBool, Ints: []int{2}}, {Kind: api.KindNest, Shape: []int{-1}}, {Kind: api.KindNest, Shape: of(17, 0)}, {Kind: api.KindNest, Shape: []int{0}, Ints: []int{1}}, {Kind: api.KindDec, Decs: []api.Dec{{Man: 10}}}} {
				b := slices.Clone(a)
				b[k] = bad
				checkWrong(t, b)
			}
		}
		for _, behind := range [][]api.Node{a, ints(nil, 1), nest([]int{0}), nest(nil), one(api.Node{}), ints(nil), make([]api.Node, 3), nest([]int{most}), wrapped(20, ints(nil, 1)), slices.Repeat(ints(nil, 1), 1000)} {
			b := slices.Concat(a, behind)
			checkSizes(t, b, false, len(a), 0, 0, 0)
			checkKids(t, b, nil)
			checkModel(t, b)
		}
		for _, ahead := range [][]api.Node{one(api.Node{}), ints(nil), ints([]int{2}, 1), bools(nil, 2), one(api.Node{Kind: 9})} {
			checkWrong(t, slices.Concat(ahead, a))
			checkWrong(t, slices.Concat(ahead, a, a))
		}
	}
}

// TestTakeRow goes through a row of several arrays, till one that is not right.
func TestTakeRow(t *testing.T) {
	arrays := [][]api.Node{ints(nil, 1), nest(nil, nest([]int{2}, ints(nil, 1), chars([]int{0}))), nest([]int{0}), decs([]int{1}, api.Dec{Man: 5}), wrapped(15, bools(nil, 1)), nest([]int{2}, ints(nil, 1), ints(nil, 2))}
	for _, end := range [][]api.Node{nil, wrapped(16, ints(nil, 1)), ints(nil), nest([]int{2}, ints(nil, 1))} {
		left := slices.Concat(append(slices.Clone(arrays), end)...)
		for k, a := range arrays {
			if got := Take(left); got != len(a) {
				t.Fatalf("Take of array %d: %d, not %d", k, got, len(a))
			}
			left = left[len(a):]
		}
		if got := Take(left); got != 0 || len(left) != len(end) {
			t.Errorf("Take of %v: %d", left, got)
		}
	}
	// An array that is too deep is none, with whatever behind it; what stands in it is one.
	a := wrapped(16, ints(nil, 1))
	if Take(append(a, ints(nil, 1)...)) != 0 || Take(a[1:]) != 16 {
		t.Error("Take of what is too deep")
	}
}

func TestDepth(t *testing.T) {
	for depth := 1; depth <= 40; depth++ {
		for _, leaf := range [][]api.Node{ints(nil, 1), nest([]int{0}), chars([]int{0}), decs(nil, api.Dec{Man: 1})} {
			a := wrapped(depth-1, leaf)
			wide := nest([]int{3}, ints(nil, 1), wrapped(max(depth-2, 0), leaf), ints(nil, 2))
			checkModel(t, a)
			checkModel(t, wide)
			if depth > 16 {
				checkWrong(t, a)
				checkWrong(t, wide)
			} else if Depth(a) != depth || Depth(wide) != max(depth, 2) {
				t.Errorf("Depth at %d: %d, %d", depth, Depth(a), Depth(wide))
			}
		}
	}
	checkRight(t, wrapped(14, ints(nil, 1)), 15, 15, 0)
	checkRight(t, wrapped(15, ints(nil, 1)), 16, 16, 0)
	checkWrong(t, wrapped(16, ints(nil, 1)))
	checkWrong(t, wrapped(16, nest([]int{0})))
	// A row that is never ended is no array, however deep it is.
	checkWrong(t, make([]api.Node, 5))
	checkWrong(t, slices.Repeat(nest(nil), 1<<20))
	checkWrong(t, slices.Repeat(nest([]int{2}), 1<<20))
}

// TestManyItems lays arrays of 2^20 items in all, of fewer, and of more.
func TestManyItems(t *testing.T) {
	half := most / 2
	great := func(n int) []api.Node { return ints([]int{n}, make([]int, n)...) }
	// Each of these has 2^20 items in all of 0, and at least one more of 1.
	for k, lay := range []func(more int) []api.Node{
		func(more int) []api.Node { return great(most + more) },
		func(more int) []api.Node {
			return nest(nil, bools([]int{most - 1 + more}, make([]int, most-1+more)...))
		},
		func(more int) []api.Node {
			return nest([]int{2}, decs([]int{half}, make([]api.Dec, half)...), chars([]int{half - 2 + more}, make([]int, half-2+more)...))
		},
		func(more int) []api.Node { return nest([]int{2}, great(half-2+more), great(half)) },
		func(more int) []api.Node { return nest([]int{half + more}, slices.Repeat(ints(nil, 1), half+more)) },
		func(more int) []api.Node { return nest([]int{most + more}, slices.Repeat(great(0), most+more)) },
		func(more int) []api.Node {
			return nest([]int{3}, nest([]int{half - 10}, slices.Repeat(nest([]int{0}), half-10)), great(0), great(half+7+more))
		},
		func(more int) []api.Node { return wrapped(15, great(most-15+more)) },
	} {
		fewer, full, beyond := lay(-1), lay(0), lay(1)
		if !Right(full) || Items(full) != most || Take(full) != len(full) {
			t.Errorf("%d: %v, %d", k, Right(full), Items(full))
		}
		if got := Items(fewer); !Right(fewer) || got != most-1 && got != most-2 {
			t.Errorf("%d, fewer: %v, %d", k, Right(fewer), Items(fewer))
		}
		checkWrong(t, beyond)
	}
	checkRight(t, ints([]int{1024, 1024}, make([]int, most)...), most, 1, 2)
	// Arrays that stand one behind the other are not counted together.
	a := great(most)
	if Take(append(a, a...)) != 1 {
		t.Error("Take of two great ones")
	}
}

// TestManyKids takes 2^20 kids apart, and nests them again.
func TestManyKids(t *testing.T) {
	a := nest([]int{most}, slices.Repeat(ints([]int{0}), most))
	kids := Kids(a)
	if len(kids) != most || !Right(kids[0]) || !Right(kids[most-1]) {
		t.Fatalf("%d kids", len(kids))
	}
	if b, ok := Nest([]int{1024, 1024}, kids...); !ok || len(b) != most+1 || !alike(b[:1], nest([]int{1024, 1024})) || !Right(b) {
		t.Errorf("Nest: %d nodes, %v", len(b), ok)
	}
}

// walk hands on all rows of up to left more parts.
func walk[T any](l, parts []T, left int, see func([]T)) {
	see(l)
	if left == 0 {
		return
	}
	for _, x := range parts {
		walk(append(slices.Clone(l), x), parts, left-1, see)
	}
}

// TestAllRows holds all calls of one row against the model, of all short rows of telling nodes.
func TestAllRows(t *testing.T) {
	walk(nil, slices.Concat(ints(nil, 1), nest(nil), nest([]int{2}), nest([]int{0}), chars([]int{3}, 1, 2, 3), bools(nil, 2), nest([]int{1, 3})), 5, func(a []api.Node) { checkModel(t, a) })
	walk(nil, slices.Concat(ints([]int{1}, 1), nest([]int{2, 1}), nest([]int{3})), 9, func(a []api.Node) { checkModel(t, a) })
}

// checkNest holds Nest against the model.
func checkNest(t *testing.T, shape []int, kids ...[]api.Node) {
	t.Helper()
	a := nest(shape, kids...)
	r, ok := modelFirst(a)
	right := ok && r.nodes() == len(a) && len(r.kids) == len(kids)
	for k, kid := range kids {
		right = right && alike(kid, r.kids[k].row())
	}
	got, ok := Nest(shape, kids...)
	if ok != right || right && !alike(got, a) || !right && len(got) != 0 {
		t.Errorf("Nest of %v and %v: %v, %v", shape, kids, brief(got), ok)
	}
	if right {
		checkKids(t, got, kids)
	}
}

// checkNoNest tells that Nest answers none and false.
func checkNoNest(t *testing.T, shape []int, kids ...[]api.Node) {
	t.Helper()
	if a, ok := Nest(shape, kids...); ok || len(a) != 0 {
		t.Errorf("Nest of %v and %d kids: %v, %v", shape, len(kids), brief(a), ok)
	}
}

// checkGoodNest tells that Nest answers the node and its kids.
func checkGoodNest(t *testing.T, shape []int, kids ...[]api.Node) {
	t.Helper()
	a, ok := Nest(shape, kids...)
	if !ok || !alike(a, nest(shape, kids...)) || !Right(a) {
		t.Errorf("Nest of %v and %d kids: %v, %v", shape, len(kids), brief(a), ok)
	}
	checkKids(t, a, kids)
}

func TestKids(t *testing.T) {
	for _, a := range [][]api.Node{ints(nil, 1), ints([]int{2}, 1, 2), bools([]int{0}), chars([]int{3}, 1, 2, 3), decs(nil, api.Dec{}), nest([]int{0}), nest([]int{3, 0})} {
		checkKids(t, a, nil)
		checkKids(t, append(a, ints(nil, 1)...), nil)
	}
	kinds := [][]api.Node{bools([]int{2}, 0, 1), ints(nil, 5), chars([]int{0}), decs([]int{1, 1}, api.Dec{Man: 3, Exp: 3}), nest([]int{0}), nest([]int{2}, ints(nil, 1), nest(nil, chars(nil, 7)))}
	checkKids(t, nest([]int{6}, kinds...), kinds)
	checkKids(t, nest([]int{3, 2}, kinds...), kinds)
	for _, kid := range kinds {
		checkKids(t, nest(nil, kid), [][]api.Node{kid})
	}
	a := nest([]int{6}, kinds...)
	checkKids(t, a[:len(a)-1], nil)
	checkKids(t, append(a, ints(nil, 1)...), nil)
	checkKids(t, nest([]int{1}, kinds[:2]...), nil)
	checkKids(t, nest([]int{2}, kinds[:1]...), nil)
	checkKids(t, wrapped(16, ints(nil, 1)), nil)
	checkKids(t, wrapped(15, ints(nil, 1)), [][]api.Node{wrapped(14, ints(nil, 1))})
}

func TestNest(t *testing.T) {
	kids := [][]api.Node{ints(nil, 1), nest([]int{2}, ints(nil, 2), chars(nil, 3)), bools([]int{0}), nest([]int{0, 2}), decs([]int{2}, api.Dec{Man: 1}, api.Dec{}), chars([]int{1}, 0x10ffff)}
	for _, shape := range [][]int{{6}, {2, 3}, {1, 6, 1}, append(of(14, 1), 3, 2)} {
		checkGoodNest(t, shape, kids...)
		checkNoNest(t, shape, kids[:5]...)
		checkNoNest(t, shape, append(slices.Clone(kids), ints(nil, 1))...)
		checkNoNest(t, shape, append(slices.Clone(kids), nil)...)
		checkNoNest(t, shape)
	}
	for _, shape := range [][]int{{0}, {0, 7}, of(16, 0), {most, most, 0}} {
		checkGoodNest(t, shape)
		checkNoNest(t, shape, ints(nil, 1))
		checkNoNest(t, shape, nil)
	}
	checkGoodNest(t, nil, ints(nil, 1))
	checkGoodNest(t, []int{}, ints(nil, 1))
	checkGoodNest(t, of(16, 1), ints(nil, 1))
	checkNoNest(t, nil)
	checkNoNest(t, []int{1})
	for _, shape := range [][]int{{-1}, {-1, -1}, {-1, 0}, {most + 1}, {most, 2}, of(17, 1), of(17, 0), {math.MinInt}, {math.MaxInt}} {
		checkNoNest(t, shape)
		checkNoNest(t, shape, ints(nil, 1))
		checkNoNest(t, shape, ints(nil, 1), ints(nil, 2))
	}
}

// TestNestWrongKids lays kids that are no right arrays, at each place.
func TestNestWrongKids(t *testing.T) {
	for _, bad := range [][]api.Node{
		nil, {}, {{}}, ints(nil), bools(nil, 2), chars(nil, 0xd800), decs(nil, api.Dec{Man: 10}), nest(nil), nest([]int{2}, ints(nil, 1)), slices.Repeat(ints(nil, 1), 2), slices.Repeat(ints(nil, 1), 3), nest([]int{0}, ints(nil, 1)),
		wrapped(15, ints(nil, 1)), wrapped(16, ints(nil, 1)), {{Kind: 6}}, nest(of(17, 0)),
	} {
		checkNoNest(t, nil, bad)
		for k := range 4 {
			kids := [][]api.Node{ints(nil, 1), ints(nil, 2), ints(nil, 3), ints(nil, 4)}
			kids[k] = bad
			checkNoNest(t, []int{4}, kids...)
		}
	}
	// Rows that are right together, but not each of them: what is amiss in one stands in the next.
	checkNoNest(t, []int{2}, nest(nil), slices.Concat(ints(nil, 1), ints(nil, 2)))
	checkNoNest(t, []int{2}, slices.Repeat(ints(nil, 1), 2), nil)
	checkNoNest(t, []int{2}, nil, slices.Repeat(ints(nil, 1), 2))
	checkNoNest(t, []int{3}, ints(nil, 1), nest([]int{2}, ints(nil, 1)), slices.Repeat(ints(nil, 1), 2))
}

// TestNestBounds lays kids that are too deep, or too great together.
func TestNestBounds(t *testing.T) {
	for depth := 1; depth <= 15; depth++ {
		checkGoodNest(t, nil, wrapped(depth-1, ints(nil, 1)))
		checkGoodNest(t, []int{2}, wrapped(depth-1, nest([]int{0})), ints(nil, 1))
	}
	checkNoNest(t, nil, wrapped(15, ints(nil, 1)))
	checkNoNest(t, []int{3}, ints(nil, 1), wrapped(15, nest([]int{0})), ints(nil, 1))
	great := func(n int) []api.Node { return ints([]int{n}, make([]int, n)...) }
	half := most / 2
	checkGoodNest(t, nil, great(most-1))
	checkNoNest(t, nil, great(most))
	checkGoodNest(t, []int{2}, great(half), great(half-2))
	checkNoNest(t, []int{2}, great(half), great(half-1))
	checkNoNest(t, []int{2}, great(half-1), great(half))
	checkGoodNest(t, []int{3}, great(half-3), great(0), great(half))
	checkNoNest(t, []int{3}, great(half-3), great(1), great(half))
	// One great kid that is handed in very often is refused ahead of being copied so often.
	checkNoNest(t, []int{1 << 19}, slices.Repeat([][]api.Node{great(most - 1)}, 1<<19)...)
}

// TestAllNests holds Nest against the model, of all short lists of telling kids.
func TestAllNests(t *testing.T) {
	walk(nil, [][]api.Node{nil, ints(nil, 1), nest(nil), nest([]int{2}, ints(nil, 1), ints(nil, 2)), slices.Repeat(ints(nil, 1), 2), nest([]int{0}), chars(nil, -1)}, 4, func(kids [][]api.Node) {
		for _, shape := range [][]int{nil, {0}, {1}, {2}, {3}, {2, 2}, {4, 1}, {-1}, {1, 1, 2}} {
			checkNest(t, shape, kids...)
		}
	})
}

// TestApart: a right array is its first node, and its kids.
func TestApart(t *testing.T) {
	count := 0
	walk(nil, slices.Concat(ints(nil, 1), nest(nil), nest([]int{2}), nest([]int{0}), chars([]int{3}, 1, 2, 3), nest([]int{3, 1})), 6, func(a []api.Node) {
		if !Right(a) {
			return
		}
		kids := Kids(a)
		if a[0].Kind != api.KindNest {
			if len(a) != 1 || len(kids) != 0 {
				t.Errorf("%v has kids: %v", a, kids)
			}
			return
		}
		count++
		if b, ok := Nest(a[0].Shape, kids...); !ok || !Same(a, b) {
			t.Errorf("Nest of the Kids of %v: %v, %v", a, b, ok)
		}
		items, depth, rank := modelCount(a[0].Shape), 0, len(a[0].Shape)
		for _, kid := range kids {
			if !Right(kid) {
				t.Errorf("a kid of %v is not right: %v", a, kid)
			}
			items, depth, rank = items+Items(kid), max(depth, Depth(kid)), max(rank, Rank(kid))
		}
		if items != Items(a) || depth+1 != Depth(a) || rank != Rank(a) {
			t.Errorf("the sizes of %v and of its kids", a)
		}
	})
	if count < 1000 {
		t.Errorf("only %d arrays of KindNest", count)
	}
}

// samples are rows that are right, and rows that are not.
func samples() [][]api.Node {
	return [][]api.Node{
		nil, ints(nil, 1), ints([]int{1}, 1), ints([]int{2}, 1, 2), ints([]int{2}, 1, 3), ints([]int{2}, 2, 2), ints([]int{1, 2}, 1, 2), bools([]int{2}, 1, 0), bools(nil, 1), chars(nil, 1), chars([]int{0}), ints([]int{0}), ints([]int{0, 0}), ints([]int{0, 1}),
		decs(nil, api.Dec{Man: 1}), decs(nil, api.Dec{Man: 1, Exp: 1}), decs(nil, api.Dec{Exp: 1}), decs([]int{2}, api.Dec{Man: 1}, api.Dec{}), one(api.Node{}), one(api.Node{Kind: 9}), ints(nil), ints(nil, 1, 2), ints([]int{-1}, 1),
		one(api.Node{Kind: api.KindInt, Ints: []int{1}, Decs: []api.Dec{{Man: 1}}}), one(api.Node{Kind: api.KindNest, Shape: of(20, 3), Ints: []int{7}, Decs: []api.Dec{{Man: 10}}}), nest(nil), nest([]int{0}), nest([]int{2}), make([]api.Node, 4),
		nest(nil, ints(nil, 1)), nest(nil, ints(nil, 2)), nest([]int{1}, ints(nil, 1)), nest([]int{2}, ints(nil, 1), ints(nil, 1)), nest([]int{2}, ints(nil, 1), bools(nil, 1)), nest([]int{2}, bools(nil, 1), ints(nil, 1)), nest([]int{2}, ints([]int{2}, 1, 2), nest([]int{2}, decs(nil, api.Dec{Man: 5}), chars([]int{3}, 1, 2, 3))),
		slices.Repeat(ints(nil, 1), 2), slices.Repeat(ints(nil, 1), 3), wrapped(15, ints(nil, 1)), wrapped(16, ints(nil, 1)), wrapped(30, ints([]int{2}, 1, 2)),
	}
}

// TestSame holds all samples against each other, and each against itself with one thing changed.
func TestSame(t *testing.T) {
	all := samples()
	for i, a := range all {
		for k, b := range all {
			if got := Same(a, b); got != (i == k) {
				t.Errorf("Same of %v and %v: %v", a, b, got)
			}
		}
		b := plain(a)
		if !Same(a, b) || !Same(b, a) || !Same(a, a) {
			t.Errorf("Same of %v and itself", a)
		}
		for k := range a {
			for what, change := range changes() {
				b := plain(a)
				if change(&b[k]) && (Same(a, b) || Same(b, a)) {
					t.Errorf("Same of %v with another %s at %d", a, what, k)
				}
			}
			for _, b := range [][]api.Node{a[:k], a[k+1:], slices.Concat(a, a[k:]), slices.Concat(a[:k], make([]api.Node, len(a)-k+1))} {
				if Same(a, b) || Same(b, a) {
					t.Errorf("Same of %v and %v", a, b)
				}
			}
		}
	}
}

// changes are ways to make a node another one; each tells if it could.
func changes() map[string]func(*api.Node) bool {
	list := func(field func(*api.Node) *[]int, change func([]int) []int) func(*api.Node) bool {
		return func(n *api.Node) bool {
			l := field(n)
			was := slices.Clone(*l)
			*l = change(*l)
			return !slices.Equal(was, *l)
		}
	}
	shape := func(n *api.Node) *[]int { return &n.Shape }
	values := func(n *api.Node) *[]int { return &n.Ints }
	longer := func(l []int) []int { return append(l, 0) }
	shorter := func(l []int) []int { return l[:max(len(l)-1, 0)] }
	first := func(l []int) []int { return append([]int{1 << 40}, l[min(len(l), 1):]...) }
	last := func(l []int) []int { return append(shorter(l), -3) }
	return map[string]func(*api.Node) bool{
		"Kind": func(n *api.Node) bool { n.Kind++; return true }, "great Kind": func(n *api.Node) bool { n.Kind += 1 << 32; return true },
		"longer Shape": list(shape, longer), "shorter Shape": list(shape, shorter), "first of Shape": list(shape, first), "last of Shape": list(shape, last),
		"longer Ints": list(values, longer), "shorter Ints": list(values, shorter), "first of Ints": list(values, first), "last of Ints": list(values, last),
		"longer Decs": func(n *api.Node) bool { n.Decs = append(n.Decs, api.Dec{}); return true },
		"shorter Decs": func(n *api.Node) bool {
			was := len(n.Decs)
			n.Decs = n.Decs[:max(was-1, 0)]
			return was > 0
		},
		"Man": func(n *api.Node) bool {
			for k := range n.Decs {
				n.Decs[k].Man++
			}
			return len(n.Decs) > 0
		},
		"Exp": func(n *api.Node) bool {
			if len(n.Decs) > 0 {
				n.Decs[len(n.Decs)-1].Exp--
			}
			return len(n.Decs) > 0
		},
		"place": func(n *api.Node) bool { n.Shape, n.Ints = n.Ints, n.Shape; return !slices.Equal(n.Shape, n.Ints) },
	}
}

// TestSameEmpty: a nil list and an empty one are the same.
func TestSameEmpty(t *testing.T) {
	for _, kind := range []int{0, 2, 4, 5, 6} {
		for bits := range 8 {
			n := api.Node{Kind: kind}
			if bits&1 > 0 {
				n.Shape = []int{}
			}
			if bits&2 > 0 {
				n.Ints = make([]int, 0, 4)
			}
			if bits&4 > 0 {
				n.Decs = []api.Dec{}
			}
			a, b := []api.Node{n, n}, []api.Node{{Kind: kind}, {Kind: kind}}
			if !Same(a, b) || !Same(b, a) || !Same(a, Copy(a)) || Right(a[:1]) != Right(b[:1]) {
				t.Errorf("Same of %#v and %#v", a, b)
			}
		}
	}
	if !Same(nil, nil) || !Same(nil, []api.Node{}) || !Same([]api.Node{}, nil) || Same(nil, make([]api.Node, 1)) || Same(make([]api.Node, 1), nil) {
		t.Error("Same of none")
	}
}

func TestCopy(t *testing.T) {
	for _, a := range samples() {
		if b := Copy(a); !alike(a, b) || !Same(a, b) || Right(a) != Right(b) {
			t.Errorf("Copy of %v: %v", a, b)
		}
	}
	great := nest([]int{2}, ints([]int{most}, make([]int, most)...), decs([]int{most}, make([]api.Dec, most)...))
	great[1].Ints[most-1], great[2].Decs[most-1].Exp = 5, 6
	if b := Copy(great); !alike(great, b) {
		t.Error("Copy of a great one")
	}
}

// spare is how much spare room roomy leaves behind each list.
const spare = 3

// roomyList is a copy of l with spare room behind it, all of which is x.
func roomyList[T any](l []T, x T) []T {
	return slices.Concat(l, slices.Repeat([]T{x}, spare))[:len(l)]
}

// roomy is a copy of a with spare room behind each list; that of the row holds nodes, too.
func roomy(a []api.Node) []api.Node {
	extra := api.Node{Kind: api.KindInt, Shape: []int{1}, Ints: []int{77}, Decs: []api.Dec{{Man: 77}}}
	row := roomyList(plain(a), extra)
	for k, n := range row[:cap(row)] {
		row[:cap(row)][k] = api.Node{Kind: n.Kind, Shape: roomyList(n.Shape, 77), Ints: roomyList(n.Ints, 78), Decs: roomyList(n.Decs, api.Dec{Man: 79})}
	}
	return row
}

// snapshot is all that a holds, the spare room too.
func snapshot(a []api.Node) []api.Node {
	all := plain(a[:cap(a)])
	for k, n := range a[:cap(a)] {
		all[k] = api.Node{Kind: n.Kind, Shape: slices.Clone(n.Shape[:cap(n.Shape)]), Ints: slices.Clone(n.Ints[:cap(n.Ints)]), Decs: slices.Clone(n.Decs[:cap(n.Decs)])}
	}
	return all
}

// TestUnchanged: neither what is handed in is changed, nor its spare room.
func TestUnchanged(t *testing.T) {
	for _, was := range samples() {
		a, b := roomy(was), roomy(was)
		allA, allB := snapshot(a), snapshot(b)
		for what, call := range map[string]func(){
			"Right": func() { Right(a) }, "Take": func() { Take(a) }, "Items": func() { Items(a) }, "Depth": func() { Depth(a) }, "Rank": func() { Rank(a) },
			"Kids": func() { Kids(a) }, "Same": func() { Same(a, b) }, "Copy": func() { Copy(a) }, "Nest": func() { Nest([]int{2}, a, b) }, "Nest of one twice": func() { Nest([]int{2}, a, a) },
			"turning the Copy": func() { turn(Copy(a)) },
			"turning Kids": func() {
				for _, kid := range Kids(a) {
					turn(kid)
				}
			},
			"turning what Nest answers": func() { c, _ := Nest([]int{2}, a, b); turn(c) },
		} {
			call()
			if !reflect.DeepEqual(snapshot(a), allA) || !reflect.DeepEqual(snapshot(b), allB) || len(a) != len(was) || len(b) != len(was) {
				t.Fatalf("%s changed %v", what, was)
			}
		}
	}
	shape, kids := roomyList([]int{2, 1}, 77), roomyList([][]api.Node{ints(nil, 1), ints(nil, 2)}, ints(nil, 3))
	for _, n := range []int{0, 1, 2} {
		a, _ := Nest(shape, kids[:n]...)
		turn(a)
		if !slices.Equal(shape[:2+spare], []int{2, 1, 77, 77, 77}) || !slices.EqualFunc(kids[:2+spare], [][]api.Node{ints(nil, 1), ints(nil, 2), ints(nil, 3), ints(nil, 3), ints(nil, 3)}, alike) {
			t.Errorf("Nest changed its shape, or its kids: %v, %v", shape[:2+spare], kids[:2+spare])
		}
	}
}

// turn makes all that a holds something else, the spare room too.
func turn(a []api.Node) {
	for k, n := range a[:cap(a)] {
		for i := range n.Shape[:cap(n.Shape)] {
			n.Shape[:cap(n.Shape)][i] = -50
		}
		for i := range n.Ints[:cap(n.Ints)] {
			n.Ints[:cap(n.Ints)][i] = -51
		}
		for i := range n.Decs[:cap(n.Decs)] {
			n.Decs[:cap(n.Decs)][i] = api.Dec{Man: -52, Exp: -53}
		}
		a[:cap(a)][k] = api.Node{Kind: -54}
	}
}

// cells notes where each cell of a list lies, the spare room too, and how often it was seen there.
type cells map[any]int

// see notes the cells of a row in all depths.
func (c cells) see(rows ...[]api.Node) {
	for _, a := range rows {
		seeList(c, a)
		for _, n := range a[:cap(a)] {
			seeList(c, n.Shape)
			seeList(c, n.Ints)
			seeList(c, n.Decs)
		}
	}
}

// seeList notes the cells of one list.
func seeList[T any](c cells, l []T) {
	for k := range l[:cap(l)] {
		c[&l[:cap(l)][k]]++
	}
}

// shared tells if one cell was seen twice.
func (c cells) shared() bool {
	for _, n := range c {
		if n > 1 {
			return true
		}
	}
	return false
}

// TestNewMemory: no list of an answer shares memory with what was handed in, nor with another one of the answer.
func TestNewMemory(t *testing.T) {
	for _, was := range samples() {
		a := roomy(was)
		c := cells{}
		c.see(a, Copy(a), Copy(a))
		if c.shared() {
			t.Errorf("Copy of %v shares memory", was)
		}
		c = cells{}
		first, second := Kids(a), Kids(a)
		c.see(a)
		c.see(first...)
		c.see(second...)
		seeList(c, first)
		seeList(c, second)
		if c.shared() {
			t.Errorf("Kids of %v share memory", was)
		}
		c = cells{}
		shape := roomyList([]int{1, 3}, 77)
		x, _ := Nest(shape, a, a, a)
		y, _ := Nest(shape, a, a, a)
		c.see(a, x, y)
		seeList(c, shape)
		if c.shared() {
			t.Errorf("Nest of %v shares memory", was)
		}
	}
	// Lists that share memory when they are handed in share none when they are answered.
	l := []int{1, 1}
	for _, a := range [][]api.Node{Copy(slices.Repeat(ints(l, l[0]), 3)), Copy([]api.Node{{Shape: l, Ints: l}, {Shape: l[:1], Ints: l[1:]}})} {
		c := cells{}
		c.see(a)
		seeList(c, l)
		if c.shared() {
			t.Error("Copy of shared lists shares memory")
		}
	}
	kid := one(api.Node{Kind: api.KindInt, Shape: l, Ints: l[:1]})
	a, ok := Nest(l, kid)
	kids := Kids(nest([]int{2}, kid, kid))
	c := cells{}
	c.see(kid, a)
	c.see(kids...)
	delete(c, any(&l[0]))
	delete(c, any(&l[1]))
	if !ok || c.shared() || &a[0].Shape[0] == &l[0] || &a[1].Shape[0] == &l[0] || &a[1].Ints[0] == &l[0] || &kids[0][0].Shape[0] == &l[0] {
		t.Error("Nest and Kids of shared lists share memory")
	}
}

// TestNotKept: what is handed in may be changed later on, and so may what was answered.
func TestNotKept(t *testing.T) {
	for _, was := range samples() {
		a := roomy(was)
		copied, kids := Copy(a), Kids(a)
		shape := []int{2}
		whole, ok := Nest(shape, a, a)
		wantKids, wantWhole := [][]api.Node{}, plain(whole)
		for _, kid := range kids {
			wantKids = append(wantKids, plain(kid))
		}
		turn(a)
		shape[0] = 9
		if !alike(copied, was) || !slices.EqualFunc(kids, wantKids, alike) || !alike(whole, wantWhole) {
			t.Errorf("turning %v turned an answer", was)
		}
		turn(whole)
		for k, kid := range kids {
			turn(kid)
			for i := k + 1; i < len(kids); i++ {
				if !alike(kids[i], wantKids[i]) {
					t.Errorf("turning kid %d of %v turned kid %d", k, was, i)
				}
			}
		}
		if !alike(copied, was) || !slices.EqualFunc(Kids(was), wantKids, alike) || !alike(Copy(was), was) {
			t.Errorf("turning answers turned others, of %v", was)
		}
		if again, still := Nest([]int{2}, was, was); still != ok || !alike(again, wantWhole) {
			t.Errorf("Nest of %v again: %v, %v", was, again, still)
		}
	}
}
