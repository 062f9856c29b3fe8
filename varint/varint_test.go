package varint

import (
	"bytes"
	"encoding/binary"
	"math/big"
	"slices"
	"testing"

	"deckle/api"
)

// numbers is 0, the greatest, and those around each power of two, so that all of one to ten bytes are among them.
func numbers() []uint64 {
	all := []uint64{0, 5, 100, 300, 1<<64 - 1, 1<<64 - 2, 0x0123456789abcdef, 0xfedcba9876543210}
	for k := range 64 {
		all = append(all, 1<<k-1, 1<<k, 1<<k+1)
	}
	n := uint64(1)
	for range 500 {
		n = n*6364136223846793005 + 1442695040888963407
		all = append(all, n, n>>(n>>58))
	}
	return all
}

// digits is a number's bytes as the rule says them.
func digits(n uint64) []byte {
	var b []byte
	for {
		b = append(b, byte(n%128))
		n /= 128
		if n == 0 {
			break
		}
	}
	for i := range len(b) - 1 {
		b[i] += 128
	}
	return b
}

// P3.1: the example, and the ends of each size.
func TestPutKnown(t *testing.T) {
	for _, c := range []struct {
		n    uint64
		want string
	}{
		{0, "\x00"},
		{1, "\x01"},
		{127, "\x7f"},
		{128, "\x80\x01"},
		{300, "\xac\x02"},
		{1<<14 - 1, "\xff\x7f"},
		{1 << 14, "\x80\x80\x01"},
		{1<<21 - 1, "\xff\xff\x7f"},
		{1 << 21, "\x80\x80\x80\x01"},
		{1<<28 - 1, "\xff\xff\xff\x7f"},
		{1 << 28, "\x80\x80\x80\x80\x01"},
		{1<<35 - 1, "\xff\xff\xff\xff\x7f"},
		{1 << 35, "\x80\x80\x80\x80\x80\x01"},
		{1<<42 - 1, "\xff\xff\xff\xff\xff\x7f"},
		{1 << 42, "\x80\x80\x80\x80\x80\x80\x01"},
		{1<<49 - 1, "\xff\xff\xff\xff\xff\xff\x7f"},
		{1 << 49, "\x80\x80\x80\x80\x80\x80\x80\x01"},
		{1<<56 - 1, "\xff\xff\xff\xff\xff\xff\xff\x7f"},
		{1 << 56, "\x80\x80\x80\x80\x80\x80\x80\x80\x01"},
		{1<<63 - 1, "\xff\xff\xff\xff\xff\xff\xff\xff\x7f"},
		{1 << 63, "\x80\x80\x80\x80\x80\x80\x80\x80\x80\x01"},
		{1<<64 - 1, "\xff\xff\xff\xff\xff\xff\xff\xff\xff\x01"},
	} {
		if got := Put(nil, c.n); string(got) != c.want {
			t.Errorf("Put of %d: %x, not %x", c.n, got, c.want)
		}
		if got := Size(c.n); got != len(c.want) {
			t.Errorf("Size of %d: %d, not %d", c.n, got, len(c.want))
		}
	}
}

// P3.1: by the rule, and as known elsewhere.
func TestPutByTheRule(t *testing.T) {
	for _, n := range numbers() {
		want := digits(n)
		if got := Put(nil, n); !bytes.Equal(got, want) || !bytes.Equal(got, binary.AppendUvarint(nil, n)) {
			t.Errorf("Put of %d: %x, not %x", n, got, want)
		}
		if got := Size(n); got != len(want) {
			t.Errorf("Size of %d: %d, not %d", n, got, len(want))
		}
	}
}

// P3.1: b's bytes are ahead, whatever they are, and the numbers are in order.
func TestPutBehindBytes(t *testing.T) {
	for _, ahead := range []string{"", "\x00", "\xff", "\x80\x80", "some bytes"} {
		if got := Put([]byte(ahead)); string(got) != ahead {
			t.Errorf("no numbers behind %q: %q", ahead, got)
		}
		if got := Put([]byte(ahead), []uint64{}...); string(got) != ahead {
			t.Errorf("an empty list behind %q: %q", ahead, got)
		}
		if got := Put([]byte(ahead), 5, 0, 200, 0, 1<<64-1, 200); string(got) != ahead+"\x05\x00\xc8\x01\x00\xff\xff\xff\xff\xff\xff\xff\xff\xff\x01\xc8\x01" {
			t.Errorf("behind %q: %q", ahead, got)
		}
		all := numbers()
		want := []byte(ahead)
		for _, n := range all {
			want = append(want, digits(n)...)
		}
		if got := Put([]byte(ahead), all...); !bytes.Equal(got, want) {
			t.Errorf("all numbers behind %q differ", ahead)
		}
	}
	if got := Put(nil); len(got) != 0 {
		t.Errorf("nothing: %q", got)
	}
}

// P3.2: the number that stands first, whatever stands behind it.
func TestTakeOfNumbers(t *testing.T) {
	for _, n := range numbers() {
		laid := digits(n)
		for _, behind := range []string{"", "\x00", "\x01", "\x80", "\xff\xff", "\x80\x00", "more than ten bytes"} {
			got, k, err := Take(append(slices.Clone(laid), behind...))
			if got != n || k != len(laid) || err != api.OK {
				t.Errorf("%x and %x: %d %d %d, not %d", laid, behind, got, k, err, n)
			}
		}
	}
}

// P3.2, W3: no bytes, and an end too soon, behind each byte but the last one.
func TestTakeOfTooFew(t *testing.T) {
	refuse(t, nil, api.ErrEnd)
	refuse(t, []byte{}, api.ErrEnd)
	for _, n := range numbers() {
		laid := digits(n)
		for k := range len(laid) {
			refuse(t, laid[:k], api.ErrEnd)
		}
	}
	for k := range 9 {
		refuse(t, bytes.Repeat([]byte{128}, k+1), api.ErrEnd)
		refuse(t, bytes.Repeat([]byte{255}, k+1), api.ErrEnd)
	}
}

// P3.2, W3: of the tenth byte 1 alone may be, and that is told ahead of any end.
func TestTakeOfTheTenth(t *testing.T) {
	for _, nine := range []string{"\x80\x80\x80\x80\x80\x80\x80\x80\x80", "\xff\xff\xff\xff\xff\xff\xff\xff\xff", "\x81\xc2\x83\xc4\x85\xc6\x87\xc8\x89"} {
		for tenth := range 256 {
			for _, behind := range []string{"", "\x00", "\x01", "\xff"} {
				b := []byte(nine + string([]byte{byte(tenth)}) + behind)
				if tenth == 1 {
					if _, k, err := Take(b); k != 10 || err != api.OK {
						t.Errorf("%x: %d %d", b, k, err)
					}
					continue
				}
				refuse(t, b, api.ErrForm)
			}
		}
	}
}

// P3.2, W3: 0 may be the first byte alone, and that is told as soon as it comes.
func TestTakeOfNoughts(t *testing.T) {
	refuse(t, []byte{0x80, 0x00}, api.ErrForm)
	for k := 1; k < 10; k++ {
		for _, c := range []byte{128, 129, 255} {
			for _, behind := range []string{"\x00", "\x00\x00", "\x00\x01", "\x00\x80", "\x00more than ten bytes"} {
				refuse(t, append(bytes.Repeat([]byte{c}, k), behind...), api.ErrForm)
			}
		}
	}
	for _, b := range []string{"\x00", "\x00\x00", "\x00\x80\x00"} {
		if n, k, err := Take([]byte(b)); n != 0 || k != 1 || err != api.OK {
			t.Errorf("%x: %d %d %d", b, n, k, err)
		}
	}
}

// refuse asks that no number stands first in b, and that the error is told alone.
func refuse(t *testing.T, b []byte, want api.Errno) {
	t.Helper()
	if n, k, err := Take(b); n != 0 || k != 0 || err != want {
		t.Errorf("Take of %x: %d %d %d, not %d", b, n, k, err, want)
	}
}

// P3.2: of all rows of up to three bytes the answer by the rule.
func TestTakeOfAllShortRows(t *testing.T) {
	for length := range 4 {
		for pick := range 1 << (8 * length) {
			b := []byte{byte(pick), byte(pick >> 8), byte(pick >> 16)}[:length]
			n, k, err := takeByRule(b)
			if gotN, gotK, gotErr := Take(b); gotN != n || gotK != k || gotErr != err {
				t.Fatalf("%x: %d %d %d, not %d %d %d", b, gotN, gotK, gotErr, n, k, err)
			}
		}
	}
}

// takeByRule is Take of rows shorter than ten bytes.
func takeByRule(b []byte) (uint64, int, api.Errno) {
	n, worth := uint64(0), uint64(1)
	for i := 0; ; i++ {
		switch {
		case i == len(b):
			return 0, 0, api.ErrEnd
		case b[i] == 0 && i > 0:
			return 0, 0, api.ErrForm
		case b[i] < 128:
			return n + worth*uint64(b[i]), i + 1, api.OK
		}
		n += worth * uint64(b[i]-128)
		worth *= 128
	}
}

// wholes is the ends of whole numbers, those near 0, and those around each power of two.
func wholes() []int {
	all := []int{0, 1, -1, 2, -2, 63, 64, -64, -65, api.MaxInt, api.MaxInt - 1, api.MinInt, api.MinInt + 1}
	for _, n := range numbers() {
		all = append(all, int(n), -int(n))
	}
	return all
}

// P3.3: by the rule, in numbers that do not wrap round.
func TestZigByTheRule(t *testing.T) {
	for _, n := range wholes() {
		want := new(big.Int).Mul(big.NewInt(int64(n)), big.NewInt(2))
		if n < 0 {
			want.Neg(want).Sub(want, big.NewInt(1))
		}
		if got := Zig(n); !want.IsUint64() || got != want.Uint64() {
			t.Errorf("Zig of %d: %d, not %v", n, got, want)
		}
	}
}

// P3.3: what is known of both, at the ends too.
func TestZigAndZagKnown(t *testing.T) {
	for _, c := range []struct {
		n int
		z uint64
	}{
		{0, 0}, {-1, 1}, {1, 2}, {-2, 3}, {2, 4}, {-64, 127}, {64, 128}, {-150, 299}, {150, 300},
		{1 << 62, 1 << 63}, {-1 << 62, 1<<63 - 1},
		{api.MaxInt, 1<<64 - 2}, {api.MinInt, 1<<64 - 1}, {api.MaxInt - 1, 1<<64 - 4}, {api.MinInt + 1, 1<<64 - 3},
	} {
		if got := Zig(c.n); got != c.z {
			t.Errorf("Zig of %d: %d, not %d", c.n, got, c.z)
		}
		if got := Zag(c.z); got != c.n {
			t.Errorf("Zag of %d: %d, not %d", c.z, got, c.n)
		}
	}
}

// P3.3: each of the two undoes the other.
func TestZagUndoesZig(t *testing.T) {
	for _, n := range wholes() {
		if got := Zag(Zig(n)); got != n {
			t.Errorf("Zag of Zig of %d: %d", n, got)
		}
	}
	for _, n := range numbers() {
		if got := Zig(Zag(n)); got != n {
			t.Errorf("Zig of Zag of %d: %d", n, got)
		}
	}
}

// P3.4: neither bytes nor numbers are changed, nor their spare room.
func TestArgumentsStayAsTheyWere(t *testing.T) {
	room := []byte("\xac\x02 and spare room for more")
	list := []uint64{5, 1 << 40, 7, 8, 9}
	before, listBefore := slices.Clone(room), slices.Clone(list)
	for k := range len(room) + 1 {
		for count := range len(list) + 1 {
			Put(room[:k], list[:count]...)
			if !bytes.Equal(room, before) || !slices.Equal(list, listBefore) {
				t.Fatalf("Put of %d bytes and %d numbers changed %q %v", k, count, room, list)
			}
		}
		Take(room[:k])
		if !bytes.Equal(room, before) {
			t.Fatalf("Take of %d bytes changed %q", k, room)
		}
	}
}

// P3.4: neither an argument nor another answer reaches into an answer, spare room too.
func TestAnswersAreNew(t *testing.T) {
	for _, list := range [][]uint64{nil, {0}, {5, 300, 1<<64 - 1}} {
		for _, text := range []string{"", "\x80", "some bytes"} {
			ahead := append(make([]byte, 0, 64), text...)
			want := string(Put([]byte(text), list...))
			first, second := Put(ahead, list...), Put(ahead, list...)
			clear(first[:cap(first)])
			if string(second) != want || string(ahead) != text {
				t.Errorf("wiping an answer reached %q %q", second, ahead)
			}
			clear(ahead[:cap(ahead)])
			if string(second) != want {
				t.Errorf("wiping an argument reached %q", second)
			}
			clear(second[:cap(second)])
			if third := Put([]byte(text), list...); string(third) != want {
				t.Errorf("wiping what was answered reached %q", third)
			}
		}
	}
	list := []uint64{300, 300}
	laid := Put(nil, list...)
	clear(list)
	if string(laid) != "\xac\x02\xac\x02" {
		t.Errorf("wiping the numbers reached %q", laid)
	}
}

// P3.5: many numbers, one behind the other, are read as they were laid.
func TestReadAsLaid(t *testing.T) {
	all := numbers()
	b := Put(nil, all...)
	for i, want := range all {
		n, k, err := Take(b)
		if n != want || k != Size(want) || err != api.OK {
			t.Fatalf("the number at %d: %d %d %d, not %d", i, n, k, err, want)
		}
		b = b[k:]
	}
	if len(b) != 0 {
		t.Errorf("left: %x", b)
	}
	for _, want := range wholes() {
		n, _, err := Take(Put(nil, Zig(want)))
		if Zag(n) != want || err != api.OK {
			t.Errorf("%d %d, not %d", Zag(n), err, want)
		}
	}
}

// P3.5: whatever is taken is what Put lays: no other bytes are taken for the number.
func TestOneForm(t *testing.T) {
	for _, n := range numbers() {
		laid := digits(n)
		for place := range laid {
			for _, c := range []byte{0, 1, 2, 127, 128, 129, 255} {
				other := slices.Clone(laid)
				other[place] = c
				other = append(other, 0, 0)
				got, k, err := Take(other)
				if err == api.OK && !bytes.Equal(Put(nil, got), other[:k]) {
					t.Errorf("%x is taken for %d", other[:k], got)
				}
			}
		}
		longer := slices.Clone(laid)
		longer[len(longer)-1] |= 128
		refuse(t, append(longer, 0), api.ErrForm)
	}
}
