package shape

import (
	"math"
	"math/big"
	"slices"
	"testing"
	"unsafe"
)

const most = 1 << 20

// modelCount is Count, worked out in numbers of any size.
func modelCount(shape []int) (int, bool) {
	product := big.NewInt(1)
	right := len(shape) <= 16
	for _, n := range shape {
		right = right && n >= 0 && n <= most
		product.Mul(product, big.NewInt(int64(n)))
	}
	if !right || product.Cmp(big.NewInt(most)) > 0 {
		return 0, false
	}
	return int(product.Int64()), true
}

// modelPlace is Place, by the chapter's words: each number times the product of those of the shape behind its own.
func modelPlace(shape, at []int) (int, bool) {
	if _, ok := modelCount(shape); !ok || len(at) != len(shape) {
		return 0, false
	}
	sum := new(big.Int)
	for k, n := range at {
		if n < 0 || n >= shape[k] {
			return 0, false
		}
		term := big.NewInt(int64(n))
		for _, behind := range shape[k+1:] {
			term.Mul(term, big.NewInt(int64(behind)))
		}
		sum.Add(sum, term)
	}
	return int(sum.Int64()), true
}

// checkCount tells what Count answers.
func checkCount(t *testing.T, shape []int, count int, ok bool) {
	t.Helper()
	if n, got := Count(shape); n != count || got != ok {
		t.Errorf("Count of %v: %d, %v, not %d, %v", shape, n, got, count, ok)
	}
}

// checkPlace holds Place against the model.
func checkPlace(t *testing.T, shape []int, at ...int) {
	t.Helper()
	place, ok := modelPlace(shape, at)
	if n, got := Place(shape, at...); n != place || got != ok {
		t.Fatalf("Place of %v and %v: %d, %v, not %d, %v", shape, at, n, got, place, ok)
	}
}

// checkNoPlace tells that Place answers 0 and false.
func checkNoPlace(t *testing.T, shape []int, at ...int) {
	t.Helper()
	if n, ok := Place(shape, at...); n != 0 || ok {
		t.Errorf("Place of %v and %v: %d, %v", shape, at, n, ok)
	}
}

// checkNoIndex tells that Index answers none and false.
func checkNoIndex(t *testing.T, shape []int, i int) {
	t.Helper()
	if l, ok := Index(shape, i); len(l) != 0 || ok {
		t.Errorf("Index of %v and %d: %v, %v", shape, i, l, ok)
	}
}

// of is a shape of count numbers, all of them n.
func of(count, n int) []int {
	return slices.Repeat([]int{n}, count)
}

// with is l with n at place k.
func with(l []int, k, n int) []int {
	l = slices.Clone(l)
	l[k] = n
	return l
}

// wrongShapes are shapes that are not right, each for a reason of its own.
func wrongShapes() [][]int {
	return [][]int{
		{-1}, {most + 1}, {math.MinInt}, {math.MaxInt}, {0, -1}, {-1, 0}, {0, most + 1}, {most + 1, 0}, {0, math.MaxInt}, {math.MinInt, 0},
		{-1, -1}, {-2, -3}, {2, -3}, {most, 2}, {2, most}, {1024, 1025}, {1025, 1024}, {17, 61681}, {most, most}, {3, 3, -1},
		of(17, 0), of(17, 1), of(17, 2), of(18, 1), of(100, 0), of(3, most), of(4, most), of(4, 1<<16), {most, most, most, 8}, {most, most, most, 16},
		of(16, most), of(16, 3), {1024, 5, 13, 37, 109, 246241, 279073},
	}
}

// rightShapes are shapes that are right and have at least one item.
func rightShapes() [][]int {
	return [][]int{
		nil, {}, {1}, {2}, {7}, {1, 1}, {2, 3}, {3, 2}, {2, 3, 4}, {4, 1, 3}, {1, 5, 1}, {2, 2, 2, 2}, {5, 4, 3, 2, 1}, of(15, 1), of(16, 1),
		of(15, 2), of(16, 2), {most}, {1, most}, {most, 1}, {1024, 1024}, {2, most / 2}, {most / 2, 2}, {3, 5, 5, 11, 31, 41}, {most - 1},
		with(of(16, 1), 0, most), with(of(16, 1), 7, most), with(of(16, 1), 15, most), {16, 16, 16, 16, 16},
	}
}

// emptyShapes are shapes that are right and have no item.
func emptyShapes() [][]int {
	return [][]int{
		{0}, {0, 0}, {3, 0}, {0, 3}, {2, 0, 3}, of(15, 0), of(16, 0), {0, most, most}, {most, 0, most}, {most, most, 0}, {0, most, most, most, most},
		{most, most, 0, most, most}, {most, most, most, most, 0}, {1024, 1025, 0}, {0, 17, 61681}, with(of(16, most), 0, 0), with(of(16, most), 8, 0), with(of(16, most), 15, 0),
	}
}

func TestExample(t *testing.T) {
	if n, ok := Place([]int{2, 3}, 1, 2); n != 5 || !ok {
		t.Errorf("Place of 2 3, and 1 2: %d, %v", n, ok)
	}
	if l, ok := Index([]int{2, 3}, 5); !slices.Equal(l, []int{1, 2}) || !ok {
		t.Errorf("Index of 2 3, and 5: %v, %v", l, ok)
	}
}

func TestCountOrdinary(t *testing.T) {
	for _, row := range []struct {
		shape []int
		count int
	}{
		{[]int{7}, 7}, {[]int{2, 3}, 6}, {[]int{2, 3, 4}, 24}, {[]int{5, 1, 5}, 25}, {[]int{10, 10, 10}, 1000}, {[]int{3, 5, 7, 11}, 1155},
		{of(4, 10), 10000}, {of(12, 3), 531441}, {[]int{1000, 1000}, 1000000},
	} {
		checkCount(t, row.shape, row.count, true)
	}
}

// TestCountRank lays shapes of no numbers, and of about 16.
func TestCountRank(t *testing.T) {
	checkCount(t, nil, 1, true)
	checkCount(t, []int{}, 1, true)
	checkCount(t, make([]int, 0, 20), 1, true)
	for n := range 40 {
		checkCount(t, of(n, 1), min(1, max(0, 17-n)), n <= 16)
		if n > 0 {
			checkCount(t, of(n, 0), 0, n <= 16)
			checkCount(t, with(of(n, most), n-1, 0), 0, n <= 16)
		}
	}
	checkCount(t, of(1, 2), 2, true)
	checkCount(t, of(15, 2), 1<<15, true)
	checkCount(t, of(16, 2), 1<<16, true)
	checkCount(t, of(17, 2), 0, false)
	checkCount(t, of(1<<16, 1), 0, false)
	checkCount(t, of(16+256, 0), 0, false)
}

// TestCountNumbers lays each number that the chapter names, alone and at every place among others.
func TestCountNumbers(t *testing.T) {
	for _, row := range []struct {
		n  int
		ok bool
	}{
		{-1, false}, {0, true}, {1, true}, {most, true}, {most + 1, false}, {math.MinInt, false}, {math.MaxInt, false}, {2, true}, {most - 1, true},
		{-2, false}, {-most, false}, {1 << 31, false}, {1 << 32, false}, {1<<32 + 1, false}, {1 << 62, false}, {math.MinInt + 1, false}, {math.MaxInt - 1, false},
	} {
		count := 0
		if row.ok {
			count = row.n
		}
		for _, rank := range []int{1, 2, 3, 15, 16} {
			for k := range rank {
				checkCount(t, with(of(rank, 1), k, row.n), count, row.ok)
				if rank > 1 {
					// A 0 beside it does not make a wrong number right.
					checkCount(t, with(with(of(rank, 1), k, row.n), (k+1)%rank, 0), 0, row.ok)
				}
			}
		}
	}
}

// TestCountProducts lays products of 2^20 just, of one more and one fewer, and of much more.
func TestCountProducts(t *testing.T) {
	for k := range 21 {
		checkCount(t, []int{1 << k, most >> k}, most, true)
		checkCount(t, []int{1 << k, 1, most >> k, 1}, most, true)
	}
	for _, shape := range [][]int{{1024, 1024}, {32, 32, 32, 32}, of(10, 4), {16, 16, 16, 16, 16}, append(of(12, 2), of(4, 4)...), append(of(4, 4), of(12, 2)...)} {
		checkCount(t, shape, most, true)
		checkCount(t, with(shape, 0, shape[0]+1), 0, false)
		checkCount(t, with(shape, len(shape)-1, shape[len(shape)-1]+1), 0, false)
		if len(shape) < 16 {
			checkCount(t, append(slices.Clone(shape), 2), 0, false)
			checkCount(t, append([]int{2}, shape...), 0, false)
		}
	}
	checkCount(t, []int{17, 61681}, 0, false)
	checkCount(t, []int{61681, 17}, 0, false)
	checkCount(t, []int{3, 5, 5, 11, 31, 41}, most-1, true)
	// 2^40, 2^60, 2^80, 2^62, 2^63, 2^64, and 2^64 + 1024, of which sixty-four bits keep 1024.
	for _, shape := range [][]int{
		of(2, most), of(3, most), of(4, most), {most, most, most, 4}, {most, most, most, 8}, {most, most, most, 16}, of(4, 1<<16), of(16, 16), of(16, most), of(16, 3), of(16, most-1),
		{1024, 5, 13, 37, 109, 246241, 279073}, {279073, 246241, 109, 37, 13, 5, 1024},
	} {
		checkCount(t, shape, 0, false)
		checkCount(t, append([]int{0}, shape[1:]...), 0, true)
	}
}

// TestCountNought lays a 0 ahead of, amid and behind great numbers.
func TestCountNought(t *testing.T) {
	for rank := 1; rank <= 16; rank++ {
		for k := range rank {
			checkCount(t, with(of(rank, most), k, 0), 0, true)
			checkCount(t, with(of(rank, 1025), k, 0), 0, true)
		}
	}
	for _, shape := range emptyShapes() {
		checkCount(t, shape, 0, true)
	}
	for _, shape := range wrongShapes() {
		checkCount(t, shape, 0, false)
	}
}

// walk hands on all rows of up to left more numbers of parts.
func walk(l, parts []int, left int, see func([]int)) {
	see(l)
	if left == 0 {
		return
	}
	for _, n := range parts {
		walk(append(slices.Clone(l), n), parts, left-1, see)
	}
}

// TestCountAll holds Count against the model, of all short shapes of telling numbers.
func TestCountAll(t *testing.T) {
	parts := []int{math.MinInt, -1, 0, 1, 2, 17, 1023, 1024, 1025, 61681, most / 2, most - 1, most, most + 1, math.MaxInt}
	walk(nil, parts, 4, func(shape []int) {
		count, ok := modelCount(shape)
		if n, got := Count(shape); n != count || got != ok {
			t.Fatalf("Count of %v: %d, %v, not %d, %v", shape, n, got, count, ok)
		}
	})
}

// TestPlaceAll holds Place against the model, of all small shapes and rows, a bit beyond their ends and of other lengths too.
func TestPlaceAll(t *testing.T) {
	walk(nil, []int{-1, 0, 1, 2, 3}, 3, func(shape []int) {
		walk(nil, []int{-1, 0, 1, 2, 3}, 4, func(at []int) {
			checkPlace(t, shape, at...)
		})
	})
}

func TestPlaceOrdinary(t *testing.T) {
	for _, row := range []struct {
		shape, at []int
		place     int
	}{
		{nil, nil, 0}, {[]int{}, []int{}, 0}, {nil, []int{}, 0}, {[]int{1}, []int{0}, 0}, {[]int{7}, []int{3}, 3}, {[]int{3, 2}, []int{2, 0}, 4},
		{[]int{2, 3, 4}, []int{1, 2, 3}, 23}, {[]int{2, 3, 4}, []int{1, 0, 2}, 14}, {[]int{10, 10, 10}, []int{4, 0, 7}, 407}, {[]int{10, 20, 30}, []int{1, 2, 3}, 663},
		{[]int{1024, 1024}, []int{1023, 1023}, most - 1}, {[]int{most}, []int{most - 1}, most - 1}, {of(16, 2), of(16, 1), 1<<16 - 1}, {of(16, 1), of(16, 0), 0},
	} {
		if n, ok := Place(row.shape, row.at...); n != row.place || !ok {
			t.Errorf("Place of %v and %v: %d, %v, not %d", row.shape, row.at, n, ok, row.place)
		}
	}
}

// TestPlaceLengths hands in as many numbers as the shape has, one fewer, one more, and none.
func TestPlaceLengths(t *testing.T) {
	for _, shape := range rightShapes() {
		rank := len(shape)
		if n, ok := Place(shape, of(rank, 0)...); n != 0 || !ok {
			t.Errorf("Place of %v and noughts: %d, %v", shape, n, ok)
		}
		checkNoPlace(t, shape, of(rank+1, 0)...)
		checkNoPlace(t, shape, of(rank+17, 0)...)
		if rank > 0 {
			checkNoPlace(t, shape, of(rank-1, 0)...)
			checkNoPlace(t, shape)
		}
	}
}

// TestPlaceEnds lays the numbers at the ends of what may be, and beyond them, at each place.
func TestPlaceEnds(t *testing.T) {
	for _, shape := range rightShapes() {
		last := make([]int, len(shape))
		for k, n := range shape {
			last[k] = n - 1
		}
		for _, base := range [][]int{of(len(shape), 0), last} {
			for k, n := range shape {
				for _, good := range []int{0, n / 2, n - 1} {
					checkPlace(t, shape, with(base, k, good)...)
					if _, ok := Place(shape, with(base, k, good)...); !ok {
						t.Errorf("Place of %v and %v: none", shape, with(base, k, good))
					}
				}
				for _, bad := range []int{-1, n, n + 1, -n, most, most + 1, math.MinInt, math.MaxInt, 1 << 32, math.MinInt + n - 1} {
					checkNoPlace(t, shape, with(base, k, bad)...)
				}
			}
		}
		count, _ := Count(shape)
		if n, ok := Place(shape, last...); n != count-1 || !ok {
			t.Errorf("Place of %v and %v: %d, %v", shape, last, n, ok)
		}
	}
}

// TestPlaceNone lays shapes that are not right, and those that have no item.
func TestPlaceNone(t *testing.T) {
	for _, shape := range append(wrongShapes(), emptyShapes()...) {
		rank := len(shape)
		last := make([]int, rank)
		for k, n := range shape {
			last[k] = max(n-1, math.MinInt+1)
		}
		for _, at := range [][]int{nil, of(rank, 0), of(rank, 1), of(rank, -1), last, shape, of(rank-1, 0), of(rank+1, 0)} {
			checkNoPlace(t, shape, at...)
		}
	}
}

// TestIndexEnds lays the places at the ends, and beyond them.
func TestIndexEnds(t *testing.T) {
	for _, shape := range rightShapes() {
		count, _ := Count(shape)
		last := make([]int, len(shape))
		for k, n := range shape {
			last[k] = n - 1
		}
		if l, ok := Index(shape, 0); !slices.Equal(l, of(len(shape), 0)) || !ok {
			t.Errorf("Index of %v and 0: %v, %v", shape, l, ok)
		}
		if l, ok := Index(shape, count-1); !slices.Equal(l, last) || !ok {
			t.Errorf("Index of %v and %d: %v, %v", shape, count-1, l, ok)
		}
		for _, i := range []int{-1, count, count + 1, -count, most, most + 1, 1 << 32, math.MinInt, math.MaxInt} {
			checkNoIndex(t, shape, i)
		}
	}
	for _, shape := range append(wrongShapes(), emptyShapes()...) {
		for _, i := range []int{-1, 0, 1, 5, most - 1, most, math.MinInt, math.MaxInt} {
			checkNoIndex(t, shape, i)
		}
	}
}

func TestIndexOrdinary(t *testing.T) {
	for _, row := range []struct {
		shape []int
		i     int
		at    []int
	}{
		{nil, 0, nil}, {[]int{}, 0, nil}, {[]int{7}, 3, []int{3}}, {[]int{3, 2}, 4, []int{2, 0}}, {[]int{2, 3, 4}, 14, []int{1, 0, 2}}, {[]int{10, 10, 10}, 407, []int{4, 0, 7}},
		{[]int{10, 20, 30}, 663, []int{1, 2, 3}}, {[]int{1024, 1024}, 1024, []int{1, 0}}, {[]int{1024, 1024}, 1023, []int{0, 1023}}, {of(16, 2), 1<<15 + 1, append([]int{1}, append(of(14, 0), 1)...)},
	} {
		if l, ok := Index(row.shape, row.i); !slices.Equal(l, row.at) || !ok {
			t.Errorf("Index of %v and %d: %v, %v, not %v", row.shape, row.i, l, ok, row.at)
		}
	}
}

// nextRow steps at to the row behind it, the last number first; it tells if there is one.
func nextRow(shape, at []int) bool {
	for k := len(at) - 1; k >= 0; k-- {
		at[k]++
		if at[k] < shape[k] {
			return true
		}
		at[k] = 0
	}
	return false
}

// TestEachPlace goes through all rows of numbers, one behind the other: each place has its one row, and Place of it tells the place.
func TestEachPlace(t *testing.T) {
	see := func(shape []int) {
		count, _ := Count(shape)
		at := make([]int, len(shape))
		for i := range count {
			if l, ok := Index(shape, i); !slices.Equal(l, at) || !ok {
				t.Fatalf("Index of %v and %d: %v, %v, not %v", shape, i, l, ok, at)
			}
			if n, ok := Place(shape, at...); n != i || !ok {
				t.Fatalf("Place of %v and %v: %d, %v, not %d", shape, at, n, ok, i)
			}
			if more := nextRow(shape, at); more != (i+1 < count) {
				t.Fatalf("%v has %d rows, not %d", shape, i+1, count)
			}
		}
	}
	for _, shape := range rightShapes() {
		see(shape)
	}
	walk(nil, []int{1, 2, 3, 5}, 5, see)
}

// roomy is a copy of l with spare room behind it, all of which is 77.
func roomy(l []int) []int {
	room := append(slices.Clone(l), of(20, 77)...)
	return room[:len(l)]
}

// TestUnchanged: neither what is handed in is changed, nor its spare room.
func TestUnchanged(t *testing.T) {
	check := func(what string, l, was []int) {
		if room := l[:len(l)+20]; !slices.Equal(room[:len(l)], was) || !slices.Equal(room[len(l):], of(20, 77)) {
			t.Errorf("%s changed %v to %v", what, was, room)
		}
	}
	for _, was := range slices.Concat(rightShapes(), emptyShapes(), wrongShapes()) {
		shape := roomy(was)
		Count(shape)
		check("Count", shape, was)
		for _, i := range []int{-1, 0, 1, 5, math.MaxInt} {
			Index(shape, i)
			check("Index", shape, was)
		}
		for _, row := range [][]int{of(len(was), 0), of(len(was), 1), of(len(was)+1, 0), was} {
			at := roomy(row)
			Place(shape, at...)
			check("Place", shape, was)
			check("Place", at, row)
		}
		// One list in both roles.
		Place(shape, shape...)
		check("Place", shape, was)
	}
}

// shared tells if a and b have memory in common, spare room too.
func shared(a, b []int) bool {
	a, b = a[:cap(a)], b[:cap(b)]
	if len(a) == 0 || len(b) == 0 {
		return false
	}
	size := unsafe.Sizeof(a[0])
	fromA, fromB := uintptr(unsafe.Pointer(&a[0])), uintptr(unsafe.Pointer(&b[0]))
	return fromA < fromB+uintptr(len(b))*size && fromB < fromA+uintptr(len(a))*size
}

// TestNewMemory: what Index answers shares no memory with the shape, nor with another answer, and no call keeps either.
func TestNewMemory(t *testing.T) {
	for _, was := range rightShapes() {
		shape := roomy(was)
		count, _ := Count(shape)
		first, _ := Index(shape, count-1)
		second, _ := Index(shape, count-1)
		if shared(first, shape) || shared(second, shape) || shared(first, second) {
			t.Errorf("Index of %v shares memory", was)
		}
		want := slices.Clone(first)
		for k := range shape {
			shape[k] = -5
		}
		for k := range second {
			second[k] = -6
		}
		if !slices.Equal(first, want) {
			t.Errorf("Index of %v: what it answered changed to %v", was, first)
		}
		_ = append(first, 9)
		for k := range first {
			first[k] = -7
		}
		if l, ok := Index(was, count-1); !slices.Equal(l, want) || !ok {
			t.Errorf("Index of %v again: %v, %v", was, l, ok)
		}
		if n, ok := Place(was, want...); n != count-1 || !ok {
			t.Errorf("Place of %v again: %d, %v", was, n, ok)
		}
		if n, ok := Count(was); n != count || !ok {
			t.Errorf("Count of %v again: %d, %v", was, n, ok)
		}
	}
}
