package bits

import (
	"bytes"
	"slices"
	"testing"

	"deckle/api"
)

// P1.1
func TestBytesCountsEighths(t *testing.T) {
	for _, c := range []struct{ n, want int }{
		{0, 0}, {1, 1}, {2, 1}, {7, 1}, {8, 1}, {9, 2}, {15, 2}, {16, 2}, {17, 3}, {24, 3}, {25, 4},
		{1 << 20, 1 << 17}, {1<<20 + 1, 1<<17 + 1},
	} {
		if got := Bytes(c.n); got != c.want {
			t.Errorf("Bytes(%d): %d, not %d", c.n, got, c.want)
		}
	}
}

// P1.1, W1: below 0 and at the ends of numbers.
func TestBytesAtTheEnds(t *testing.T) {
	for _, c := range []struct{ n, want int }{
		{-1, 0}, {-7, 0}, {-8, 0}, {-9, 0}, {api.MinInt, 0}, {api.MinInt + 1, 0},
		{api.MaxInt, 1 << 60}, {api.MaxInt - 7, 1<<60 - 1}, {api.MaxInt - 6, 1 << 60},
	} {
		if got := Bytes(c.n); got != c.want {
			t.Errorf("Bytes(%d): %d, not %d", c.n, got, c.want)
		}
	}
}

// P1.2
func TestPackLaysBits(t *testing.T) {
	for _, c := range []struct {
		l    []int
		want []byte
	}{
		{nil, nil},
		{[]int{}, nil},
		{[]int{0}, []byte{0}},
		{[]int{1}, []byte{1}},
		{[]int{1, 0, 1}, []byte{5}},
		{[]int{0, 1, 1}, []byte{6}},
		{[]int{0, 0, 0, 0, 0, 0, 0, 1}, []byte{0x80}},
		{[]int{1, 1, 1, 1, 1, 1, 1, 1}, []byte{0xff}},
		{[]int{0, 0, 0, 0, 0, 0, 0, 0, 1}, []byte{0, 1}},
		{[]int{1, 0, 0, 0, 0, 0, 0, 0, 0}, []byte{1, 0}},
		{[]int{1, 0, 0, 0, 0, 0, 0, 0, 0, 1, 0, 0, 0, 0, 0, 1}, []byte{1, 0x82}},
	} {
		if got := Pack(c.l); !bytes.Equal(got, c.want) {
			t.Errorf("Pack(%v): %v, not %v", c.l, got, c.want)
		}
	}
}

// P1.2: whatever is not 0 is the bit 1.
func TestPackOfOtherNumbers(t *testing.T) {
	for _, v := range []int{-1, 2, 3, 8, 255, 256, -256, 1 << 32, api.MaxInt, api.MinInt} {
		if got := Pack([]int{0, v, 0}); !bytes.Equal(got, []byte{2}) {
			t.Errorf("Pack(0 %d 0): %v", v, got)
		}
	}
}

// P1.2: each place alone, over some bytes; all other bits are 0.
func TestPackEachPlace(t *testing.T) {
	for n := range 34 {
		for place := range n {
			l := make([]int, n)
			l[place] = 1
			want := make([]byte, Bytes(n))
			want[place/8] = []byte{1, 2, 4, 8, 16, 32, 64, 128}[place%8]
			if got := Pack(l); !bytes.Equal(got, want) {
				t.Errorf("%d of %d: %v, not %v", place, n, got, want)
			}
		}
	}
}

// P1.3
func TestUnpackReadsBits(t *testing.T) {
	for _, c := range []struct {
		b    []byte
		n    int
		want []int
	}{
		{nil, 0, nil},
		{[]byte{}, 0, nil},
		{[]byte{0}, 1, []int{0}},
		{[]byte{1}, 1, []int{1}},
		{[]byte{5}, 3, []int{1, 0, 1}},
		{[]byte{5}, 8, []int{1, 0, 1, 0, 0, 0, 0, 0}},
		{[]byte{0xff}, 8, []int{1, 1, 1, 1, 1, 1, 1, 1}},
		{[]byte{0x80, 1}, 9, []int{0, 0, 0, 0, 0, 0, 0, 1, 1}},
		{[]byte{1, 0x82}, 16, []int{1, 0, 0, 0, 0, 0, 0, 0, 0, 1, 0, 0, 0, 0, 0, 1}},
	} {
		got, ok := Unpack(c.b, c.n)
		if !ok || !slices.Equal(got, c.want) {
			t.Errorf("Unpack(%v, %d): %v %v, not %v", c.b, c.n, got, ok, c.want)
		}
	}
}

// P1.3, W3: of what is no Pack there are no numbers.
func TestUnpackRefuses(t *testing.T) {
	for _, c := range []struct {
		why string
		b   []byte
		n   int
	}{
		{"below 0", nil, -1},
		{"below 0", []byte{0}, -1},
		{"below 0", []byte{0}, -8},
		{"below 0", nil, api.MinInt},
		{"too few bytes", nil, 1},
		{"too few bytes", []byte{0}, 9},
		{"too few bytes", []byte{1, 1}, 17},
		{"too few bytes", nil, api.MaxInt},
		{"too few bytes", []byte{0}, api.MaxInt},
		{"too few bytes", nil, api.MaxInt - 7},
		{"too many bytes", []byte{0}, 0},
		{"too many bytes", []byte{0, 0}, 8},
		{"too many bytes", []byte{1, 0}, 1},
		{"set behind", []byte{2}, 1},
		{"set behind", []byte{0x80}, 1},
		{"set behind", []byte{0xff}, 7},
		{"set behind", []byte{8}, 3},
		{"set behind", []byte{0, 2}, 9},
		{"set behind", []byte{0xff, 0x80}, 15},
	} {
		if l, ok := Unpack(c.b, c.n); ok || len(l) != 0 {
			t.Errorf("%s: Unpack(%v, %d): %v %v", c.why, c.b, c.n, l, ok)
		}
	}
}

// P1.4: what is handed in is not changed, nor its spare room.
func TestArgumentsStayAsTheyWere(t *testing.T) {
	l := []int{7, 0, -1, 9, 9}
	Pack(l[:3])
	if !slices.Equal(l, []int{7, 0, -1, 9, 9}) {
		t.Error("Pack changed", l)
	}
	for _, n := range []int{10, 9, 3, -1} {
		b := []byte{1, 2, 0xaa, 0xbb}
		Unpack(b[:2], n)
		if !bytes.Equal(b, []byte{1, 2, 0xaa, 0xbb}) {
			t.Error("Unpack changed", b, n)
		}
	}
}

// P1.4: neither an argument nor another answer reaches into an answer.
func TestAnswersAreNew(t *testing.T) {
	l := []int{1, 0, 1}
	first, second := Pack(l), Pack(l)
	l[0], l[1] = 0, 1
	wipe(first)
	if !bytes.Equal(second, []byte{5}) {
		t.Error("Pack shares memory", second)
	}
	b := []byte{5}
	one, _ := Unpack(b, 3)
	two, _ := Unpack(b, 3)
	b[0] = 2
	wipe(one)
	if !slices.Equal(two, []int{1, 0, 1}) {
		t.Error("Unpack shares memory", two)
	}
}

// wipe sets a row to 0, its spare room too.
func wipe[T byte | int](l []T) {
	clear(l[:cap(l)])
}

// P1.5: back as it was, each number as its bit.
func TestPackedIsUnpacked(t *testing.T) {
	for n := range 12 {
		for pattern := range 1 << n {
			l, want := numbersOf(pattern, n)
			got, ok := Unpack(Pack(l), n)
			if !ok || !slices.Equal(got, want) {
				t.Fatalf("%v: %v %v", l, got, ok)
			}
		}
	}
}

// numbersOf is n numbers of which some are not 0, as the pattern says, and their bits.
func numbersOf(pattern, n int) ([]int, []int) {
	l, bits := make([]int, n), make([]int, n)
	for i := range n {
		bits[i] = pattern >> i & 1
		l[i] = bits[i] * (i*i - 50)
	}
	return l, bits
}

// P1.5: one form: of all rows of at most two bytes just those are unpacked that are the Pack of what they give.
func TestOneForm(t *testing.T) {
	for n := range 18 {
		found := 0
		for _, b := range shortRows() {
			l, ok := Unpack(b, n)
			if !ok {
				continue
			}
			found++
			if len(l) != n || !bytes.Equal(Pack(l), b) {
				t.Fatalf("Unpack(%v, %d): %v", b, n, l)
			}
		}
		want := 1 << n
		if n > 16 {
			want = 0
		}
		if found != want {
			t.Errorf("%d numbers have %d forms, not %d", n, found, want)
		}
	}
}

// shortRows is all rows of at most two bytes.
func shortRows() [][]byte {
	rows := [][]byte{nil}
	for low := range 256 {
		rows = append(rows, []byte{byte(low)})
		for high := range 256 {
			rows = append(rows, []byte{byte(low), byte(high)})
		}
	}
	return rows
}

// P1.5: a long row too.
func TestLongRow(t *testing.T) {
	for _, n := range []int{api.MaxItems, api.MaxItems - 3} {
		l := make([]int, n)
		for i := range l {
			if i%3 == 0 || i%7 == 2 {
				l[i] = 1
			}
		}
		got, ok := Unpack(Pack(l), n)
		if !ok || !slices.Equal(got, l) {
			t.Error(n)
		}
	}
}
