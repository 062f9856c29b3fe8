package crc

import (
	"bytes"
	"fmt"
	"hash/crc32"
	"slices"
	"testing"

	"deckle/api"
)

// polynomials is some of 2^31 or more.
func polynomials() []uint32 {
	return []uint32{api.Poly, crc32.Castagnoli, crc32.Koopman, 1 << 31, 1<<31 + 1, 1<<32 - 1}
}

// tables is some that Table makes, and some that it does not.
func tables() map[string][256]uint32 {
	all := map[string][256]uint32{}
	for _, poly := range append(polynomials(), 0, 1, 1<<31-1) {
		all[fmt.Sprintf("Table(%x)", poly)] = Table(poly)
	}
	var full, same, mixed [256]uint32
	for n := range 256 {
		full[n] = 1<<32 - 1
		same[n] = uint32(n)
		mixed[n] = uint32(n*n+7) * 2654435761
	}
	all["noughts"] = [256]uint32{}
	all["ones"] = full
	all["places"] = same
	all["mixed"] = mixed
	return all
}

// rows is some rows of bytes, from none on.
func rows() [][]byte {
	all := [][]byte{nil, {}, {0}, {255}, []byte("a"), []byte("123456789"), make([]byte, 9), bytes.Repeat([]byte{255}, 9)}
	long := make([]byte, 3000)
	for i := range long {
		long[i] = byte(i*i>>3 + i)
	}
	return append(all, long, long[:257], long[1:6])
}

// sumByRule is the sum as the rule says it, in numbers that do not wrap round.
func sumByRule(t [256]uint32, s uint32, row []byte) uint32 {
	n := uint64(s) ^ (1<<32 - 1)
	for _, c := range row {
		n = n/256 ^ uint64(t[(n^uint64(c))%256])
	}
	return uint32(n ^ (1<<32 - 1))
}

// P2.1: each place by the rule, bit by bit, whatever the polynomial.
func TestTableByTheRule(t *testing.T) {
	for _, poly := range append(polynomials(), 0, 1, 2, 255, 1<<31-1, 0x04c11db7) {
		table := Table(poly)
		for place := range 256 {
			want := uint64(place)
			for step := 0; step < 8; step++ {
				if want%2 == 1 {
					want = want/2 ^ uint64(poly)
				} else {
					want /= 2
				}
			}
			if uint64(table[place]) != want {
				t.Fatalf("Table(%x)[%d]: %x, not %x", poly, place, table[place], want)
			}
		}
	}
}

// P2.1: the tables that are known elsewhere.
func TestTableKnown(t *testing.T) {
	if Table(api.Poly) != *crc32.IEEETable {
		t.Error("Poly")
	}
	for _, poly := range polynomials() {
		if Table(poly) != *crc32.MakeTable(poly) {
			t.Errorf("%x", poly)
		}
	}
	if Table(0) != ([256]uint32{}) {
		t.Error("of 0 all is 0")
	}
	if got := Table(1 << 31); got[0] != 0 || got[1] != 1<<24 || got[2] != 1<<25 || got[128] != 1<<31 || got[255] != 255<<24 {
		t.Errorf("of 2^31: %x %x %x %x %x", got[0], got[1], got[2], got[128], got[255])
	}
}

// P2.2: the example, and sums that are known elsewhere.
func TestSumKnown(t *testing.T) {
	table := Table(api.Poly)
	for _, c := range []struct {
		text string
		want uint32
	}{
		{"", 0},
		{"a", 0xe8b7be43},
		{"abc", 0x352441c2},
		{"123456789", 0xcbf43926},
		{"\x00", 0xd202ef8d},
		{"\x00\x00\x00\x00", 0x2144df1c},
		{"\xff\xff\xff\xff", 0xffffffff},
	} {
		if got := Sum(table, []byte(c.text)); got != c.want {
			t.Errorf("%q: %x, not %x", c.text, got, c.want)
		}
	}
	for _, poly := range polynomials() {
		for _, row := range rows() {
			if got, want := Sum(Table(poly), row), crc32.Checksum(row, crc32.MakeTable(poly)); got != want {
				t.Errorf("%x of %d bytes: %x, not %x", poly, len(row), got, want)
			}
		}
	}
}

// P2.2: any table may be handed in, and each of its places counts.
func TestSumByAnyTable(t *testing.T) {
	for name, table := range tables() {
		for _, row := range rows() {
			if got, want := Sum(table, row), sumByRule(table, 0, row); got != want {
				t.Errorf("%s, %d bytes: %x, not %x", name, len(row), got, want)
			}
		}
	}
	for place := range 256 {
		var table [256]uint32
		table[place] = 0x12345678
		// From 2^32 - 1 on the first byte leads to the place 255 less it.
		if got := Sum(table, []byte{byte(255 - place)}); got != ^uint32(0x00ffffff^0x12345678) {
			t.Errorf("%d: %x", place, got)
		}
	}
}

// P2.2: no parts, and empty ones.
func TestSumOfNothing(t *testing.T) {
	for name, table := range tables() {
		for _, parts := range [][][]byte{nil, {}, {nil}, {{}}, {nil, {}, nil}} {
			if got := Sum(table, parts...); got != 0 {
				t.Errorf("%s: Sum of %v: %x", name, parts, got)
			}
			for _, s := range []uint32{0, 1, 0xcbf43926, 1 << 31, 1<<32 - 1} {
				if got := More(table, s, parts...); got != s {
					t.Errorf("%s: More of %x and %v: %x", name, s, parts, got)
				}
			}
		}
	}
}

// P2.2: it does not matter how the bytes are cut into parts, nor which of them a More takes.
func TestCutsDoNotMatter(t *testing.T) {
	row := []byte("A few bytes, and \x00\xff")
	for name, table := range tables() {
		want := sumByRule(table, 0, row)
		for first := range len(row) + 1 {
			for second := first; second <= len(row); second++ {
				a, b, c := row[:first], row[first:second], row[second:]
				if got := Sum(table, a, b, nil, c); got != want {
					t.Fatalf("%s, %d %d: %x, not %x", name, first, second, got, want)
				}
				if got := More(table, Sum(table, a), b, []byte{}, c); got != want {
					t.Fatalf("%s, %d %d: More: %x, not %x", name, first, second, got, want)
				}
				if got := More(table, More(table, Sum(table), a, b), c); got != want {
					t.Fatalf("%s, %d %d: More of More: %x, not %x", name, first, second, got, want)
				}
			}
		}
	}
}

// P2.2: More goes on from any number.
func TestMoreFromAnyNumber(t *testing.T) {
	for name, table := range tables() {
		for _, s := range []uint32{0, 1, 255, 256, 0xcbf43926, 1 << 31, 1<<32 - 1} {
			for _, row := range rows() {
				if got, want := More(table, s, row), sumByRule(table, s, row); got != want {
					t.Errorf("%s, from %x, %d bytes: %x, not %x", name, s, len(row), got, want)
				}
			}
		}
	}
}

// P2.3
func TestSealLaysTheSumBehind(t *testing.T) {
	table := Table(api.Poly)
	if got := Seal(table, []byte("1234"), nil, []byte("56789")); string(got) != "123456789\x26\x39\xf4\xcb" {
		t.Errorf("%q", got)
	}
	for name, table := range tables() {
		for _, parts := range [][][]byte{nil, {nil}, {{}, nil}} {
			if got := Seal(table, parts...); !bytes.Equal(got, make([]byte, 4)) {
				t.Errorf("%s: nothing: %v", name, got)
			}
		}
		for _, row := range rows() {
			s := sumByRule(table, 0, row)
			want := slices.Concat(row, []byte{byte(s), byte(s >> 8), byte(s >> 16), byte(s >> 24)})
			half := len(row) / 2
			if got := Seal(table, row); !bytes.Equal(got, want) {
				t.Errorf("%s, %d bytes: %v", name, len(row), got)
			}
			if got := Seal(table, row[:half], nil, row[half:]); !bytes.Equal(got, want) {
				t.Errorf("%s, %d bytes in parts: %v", name, len(row), got)
			}
		}
	}
}

// P2.3: what is sealed by a table is opened by it.
func TestOpenGivesWhatWasSealed(t *testing.T) {
	for name, table := range tables() {
		for _, row := range rows() {
			got, ok := Open(table, Seal(table, row))
			if !ok || !bytes.Equal(got, row) {
				t.Errorf("%s, %d bytes: %v %v", name, len(row), got, ok)
			}
		}
	}
}

// P2.3, W3: fewer than four bytes are no Seal.
func TestOpenOfTooFew(t *testing.T) {
	for name, table := range tables() {
		for n := range 4 {
			for _, c := range []byte{0, 1, 255} {
				if got, ok := Open(table, bytes.Repeat([]byte{c}, n)); ok || len(got) != 0 {
					t.Errorf("%s, %d of %d: %v %v", name, n, c, got, ok)
				}
			}
		}
		if got, ok := Open(table, nil); ok || len(got) != 0 {
			t.Errorf("%s, nil: %v %v", name, got, ok)
		}
	}
}

// P2.3, W3: each sum but the one is a wrong one.
func TestOpenOfWrongSums(t *testing.T) {
	for name, table := range tables() {
		for _, row := range rows() {
			sealed := Seal(table, row)
			for bit := range 32 {
				wrong := slices.Clone(sealed)
				wrong[len(row)+bit/8] ^= 1 << (bit % 8)
				if got, ok := Open(table, wrong); ok || len(got) != 0 {
					t.Errorf("%s, %d bytes, bit %d: %v %v", name, len(row), bit, got, ok)
				}
			}
		}
	}
	table := Table(api.Poly)
	for _, wrong := range []string{
		"\x00\x00\x00\x01", "\xff\xff\xff\xff", "\x00\x00\x00\x00\x00",
		"123456789", "123456789\xcb\xf4\x39\x26", "123456789\x26\x39\xf4", "23456789\x26\x39\xf4\xcb",
		"123456789\x26\x39\xf4\xcb\x00", "\x26\x39\xf4\xcb123456789", "123456789\xd9\xc6\x0b\x34",
	} {
		if got, ok := Open(table, []byte(wrong)); ok || len(got) != 0 {
			t.Errorf("%q: %v %v", wrong, got, ok)
		}
	}
	if _, ok := Open(Table(crc32.Castagnoli), Seal(table, []byte("123456789"))); ok {
		t.Error("by another table")
	}
}

// P2.3: the sum alone tells, also by a table that sums many rows alike.
func TestOpenByAPoorTable(t *testing.T) {
	if got, ok := Open([256]uint32{}, []byte("wxyz\xff\xff\xff\xff")); !ok || string(got) != "wxyz" {
		t.Errorf("%q %v", got, ok)
	}
	if got, ok := Open([256]uint32{}, []byte("xyz\xff\xff\xff\xff")); ok || len(got) != 0 {
		t.Errorf("%q %v", got, ok)
	}
}

// P2.4: neither tables, nor parts, nor their list, nor spare room is changed.
func TestArgumentsStayAsTheyWere(t *testing.T) {
	table := Table(api.Poly)
	room := []byte("123456789and spare room")
	before := slices.Clone(room)
	other := []byte("z")
	parts := [][]byte{room[:4], room[4:9], other, other}
	for name, call := range map[string]func(){
		"Sum":  func() { Sum(table, parts[:2]...) },
		"More": func() { More(table, 7, parts[:2]...) },
		"Seal": func() { Seal(table, parts[:2]...) },
		"Open": func() { Open(table, room[:9]) },
	} {
		call()
		if !bytes.Equal(room, before) || string(other) != "z" {
			t.Errorf("%s changed bytes: %q", name, room)
		}
		if len(parts[0]) != 4 || len(parts[1]) != 5 || &parts[0][0] != &room[0] || &parts[1][0] != &room[4] || &parts[2][0] != &other[0] || &parts[3][0] != &other[0] {
			t.Errorf("%s changed the list", name)
		}
		if table != Table(api.Poly) {
			t.Errorf("%s changed the table", name)
		}
	}
	sealed := slices.Concat(Seal(table, room), []byte("more room"))
	was := slices.Clone(sealed)
	Open(table, sealed[:len(room)+4])
	if !bytes.Equal(sealed, was) {
		t.Errorf("Open changed %q", sealed)
	}
}

// P2.4: neither an argument nor another answer reaches into an answer, spare room too.
func TestAnswersAreNew(t *testing.T) {
	table := Table(api.Poly)
	for _, text := range []string{"", "1", "123456789"} {
		part := append(make([]byte, 0, 64), text...)
		want := text + string(Seal(table, []byte(text))[len(text):])
		first, second := Seal(table, part), Seal(table, part)
		wipe(part)
		wipe(first)
		if string(second) != want {
			t.Errorf("Seal shares memory: %q", second)
		}
		sealed := append(make([]byte, 0, 64), want...)
		one, _ := Open(table, sealed)
		two, _ := Open(table, sealed)
		wipe(one)
		if string(sealed) != want || string(two) != text {
			t.Errorf("Open shares memory: %q %q", sealed, two)
		}
		wipe(sealed)
		if string(two) != text {
			t.Errorf("Open shares memory: %q", two)
		}
	}
	wrong := []byte("123456789")
	none, _ := Open(table, wrong)
	wipe(none)
	if string(wrong) != "123456789" {
		t.Errorf("Open that refuses shares memory: %q", wrong)
	}
	mine := Table(api.Poly)
	mine[1] = 0
	if Table(api.Poly) != *crc32.IEEETable {
		t.Error("Table shares memory")
	}
}

// wipe sets a row to 0, its spare room too.
func wipe(b []byte) {
	clear(b[:cap(b)])
}

// P2.5: all turns of bits within twelve, at each place.
func TestTurnedWithinTwelve(t *testing.T) {
	for _, poly := range polynomials() {
		table := Table(poly)
		sealed := Seal(table, []byte("x\x00\xffyz"))
		for place := range 8 * len(sealed) {
			for pattern := uint64(1); pattern < 1<<12; pattern += 2 {
				refuseTurned(t, table, sealed, place, pattern)
			}
		}
	}
}

// P2.5: turns of bits within thirty-two, both ends among them, and each end alone.
func TestTurnedWithinThirtyTwo(t *testing.T) {
	for _, poly := range polynomials() {
		table := Table(poly)
		for _, row := range [][]byte{nil, {0}, []byte("123456789"), make([]byte, 40)} {
			sealed := Seal(table, row)
			for place := range 8 * len(sealed) {
				refuseTurned(t, table, sealed, place, 1<<32-1)
				refuseTurned(t, table, sealed, place, 1<<31)
				refuseTurned(t, table, sealed, place, 1<<31+1)
				refuseTurned(t, table, sealed, place, uint64(poly))
				between := uint64(place + 1)
				for range 50 {
					between = between * 6364136223846793005 % (1 << 30)
					refuseTurned(t, table, sealed, place, 1<<31+between<<1+1)
				}
			}
		}
	}
}

// refuseTurned asks that the sealed bytes are not opened, if from the place on those bits are turned of which the pattern has a 1 (as far as there are such bits).
func refuseTurned(t *testing.T, table [256]uint32, sealed []byte, place int, pattern uint64) {
	t.Helper()
	turned := slices.Clone(sealed)
	for i := place; i < 8*len(turned) && pattern>>(i-place) != 0; i++ {
		turned[i/8] ^= byte(pattern>>(i-place)&1) << (i % 8)
	}
	if bytes.Equal(turned, sealed) {
		return
	}
	if got, ok := Open(table, turned); ok || len(got) != 0 {
		t.Fatalf("%d bytes, from the bit %d on %b: %v", len(sealed), place, pattern, got)
	}
}

// P2.5: the bound is sharp: turned by the polynomial itself, which is thirty-three bits long, the bytes are still opened.
func TestThirtyThreeMayPass(t *testing.T) {
	table := Table(api.Poly)
	sealed := Seal(table, []byte("123456789"))
	pattern := uint64(api.Poly)<<1 | 1
	for i := range 33 {
		sealed[i/8] ^= byte(pattern>>i&1) << (i % 8)
	}
	if _, ok := Open(table, sealed); !ok {
		t.Error("turned by the polynomial the sum stays right")
	}
}
