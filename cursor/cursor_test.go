package cursor

import (
	"bytes"
	"strings"
	"testing"

	"deckle/api"
	"deckle/varint"
)

// state holds what is to be seen of a cursor against what it should be.
func state(t *testing.T, what string, c *Cursor, left, at int, fault api.Fault) {
	t.Helper()
	if c.Left() != left || c.At() != at || c.Fault() != fault {
		t.Errorf("%s: %d left at %d, fault %+v; not %d left at %d, fault %+v", what, c.Left(), c.At(), c.Fault(), left, at, fault)
	}
}

// P4.1: bytes and place as they were handed in, the place within its ends.
func TestOpen(t *testing.T) {
	for _, x := range []struct{ at, want int }{
		{0, 0}, {1, 1}, {10, 10}, {-1, 0}, {-5, 0}, {api.MinInt, 0},
		{1<<40 - 1, 1<<40 - 1}, {1 << 40, 1 << 40}, {1<<40 + 1, 1 << 40}, {1 << 62, 1 << 40}, {api.MaxInt, 1 << 40},
	} {
		for _, b := range []string{"", "a", "abc"} {
			c := Open([]byte(b), x.at)
			state(t, "opened", c, len(b), x.want, api.Fault{})
			for i := range len(b) {
				if got := c.Byte(); got != b[i] {
					t.Errorf("byte %d of %q: %d", i, b, got)
				}
			}
			state(t, "read", c, 0, x.want+len(b), api.Fault{})
		}
	}
	state(t, "of nil", Open(nil, 3), 0, 3, api.Fault{})
	if got := Open(nil, 3).End(); got != (api.Fault{}) {
		t.Errorf("End of nil: %+v", got)
	}
}

// P4.2: the chapter's example.
func TestExample(t *testing.T) {
	c := Open([]byte{5, 0x80}, 10)
	if got := c.Byte(); got != 5 {
		t.Error(got)
	}
	if got := c.Num(9); got != 0 {
		t.Error(got)
	}
	state(t, "example", c, 0, 11, api.Fault{Err: api.ErrEnd, At: 11})
}

// P4.2: every byte there is, and what is read is gone.
func TestByte(t *testing.T) {
	var all []byte
	for i := range 256 {
		all = append(all, byte(i))
	}
	c := Open(all, 7)
	for i := range 256 {
		state(t, "ahead", c, 256-i, 7+i, api.Fault{})
		if got := c.Byte(); got != byte(i) {
			t.Errorf("byte %d: %d", i, got)
		}
	}
	state(t, "behind", c, 0, 263, api.Fault{})
	if got := c.Byte(); got != 0 {
		t.Error(got)
	}
	state(t, "failed", c, 0, 263, api.Fault{Err: api.ErrEnd, At: 263})
}

// P4.2: numbers up to most, of each size.
func TestNum(t *testing.T) {
	for k := range 63 {
		for _, n := range []int{1<<k - 1, 1 << k, 1<<k + (1<<k - 1)} {
			size := varint.Size(uint64(n))
			for _, most := range []int{n, api.MaxInt} {
				c := Open(append(varint.Put(nil, uint64(n)), 9), 20)
				if got := c.Num(most); got != n {
					t.Errorf("Num(%d) of %d: %d", most, n, got)
				}
				state(t, "Num", c, 1, 20+size, api.Fault{})
				if got := c.Byte(); got != 9 {
					t.Errorf("behind %d: %d", n, got)
				}
			}
		}
	}
}

// P4.2: numbers whose Zig comes, to the ends of whole numbers.
func TestInt(t *testing.T) {
	for _, n := range []int{0, 1, -1, 2, -2, -3, 63, -64, 64, -65, 300, -300, 1 << 40, -1 << 40, api.MaxInt, api.MinInt, api.MaxInt - 1, api.MinInt + 1} {
		zig := varint.Zig(n)
		c := Open(append(varint.Put(nil, zig), 9), 20)
		if got := c.Int(); got != n {
			t.Errorf("Int of %d: %d", n, got)
		}
		state(t, "Int", c, 1, 20+varint.Size(zig), api.Fault{})
	}
}

// P4.2: none, some, and all that are left.
func TestTake(t *testing.T) {
	c := Open([]byte("abcdef"), 1)
	for _, x := range []struct {
		n        int
		want     string
		left, at int
	}{{0, "", 6, 1}, {1, "a", 5, 2}, {3, "bcd", 2, 5}, {0, "", 2, 5}, {2, "ef", 0, 7}, {0, "", 0, 7}} {
		if got := c.Take(x.n); string(got) != x.want {
			t.Errorf("Take(%d): %q, not %q", x.n, got, x.want)
		}
		state(t, "Take", c, x.left, x.at, api.Fault{})
	}
	if got := Open([]byte("abc"), 0).Take(3); string(got) != "abc" {
		t.Errorf("all: %q", got)
	}
	if got := Open(nil, 0).Take(0); len(got) != 0 {
		t.Errorf("none of nil: %q", got)
	}
}

// read is a call that reads, told as whether what it answered is zero.
type read struct {
	name string
	zero func(c *Cursor) bool
}

func readByte() read {
	return read{"Byte", func(c *Cursor) bool { return c.Byte() == 0 }}
}

func readNum(most int) read {
	return read{"Num", func(c *Cursor) bool { return c.Num(most) == 0 }}
}

func readInt() read {
	return read{"Int", func(c *Cursor) bool { return c.Int() == 0 }}
}

func readTake(n int) read {
	return read{"Take", func(c *Cursor) bool { return len(c.Take(n)) == 0 }}
}

// P4.2: what fails, with which error first; the place stays, and no bytes are left.
func TestFailures(t *testing.T) {
	nine := strings.Repeat("\xff", 9)
	for _, x := range []struct {
		b    string
		r    read
		want api.Errno
	}{
		{"", readByte(), api.ErrEnd},
		{"", readTake(1), api.ErrEnd},
		{"", readTake(-1), api.ErrEnd},
		{"abc", readTake(4), api.ErrEnd},
		{"abc", readTake(-1), api.ErrEnd},
		{"abc", readTake(api.MaxInt), api.ErrEnd},
		{"abc", readTake(api.MinInt), api.ErrEnd},
		{"", readNum(9), api.ErrEnd},
		{"", readInt(), api.ErrEnd},
		{"\x80", readNum(9), api.ErrEnd},
		{"\x81", readInt(), api.ErrEnd},
		{nine, readNum(api.MaxInt), api.ErrEnd},
		{nine, readInt(), api.ErrEnd},
		// varint's error comes ahead of that of a number above most.
		{"", readNum(-1), api.ErrEnd},
		{"\xff", readNum(-1), api.ErrEnd},
		{"\xff\xff", readNum(0), api.ErrEnd},
		{"\x80\x00", readNum(9), api.ErrForm},
		{"\x80\x00", readNum(-1), api.ErrForm},
		{"\x80\x00", readInt(), api.ErrForm},
		{nine + "\x00", readNum(api.MaxInt), api.ErrForm},
		{nine + "\x02", readNum(api.MaxInt), api.ErrForm},
		{nine + "\x02", readInt(), api.ErrForm},
		{nine + "\x80\x01", readInt(), api.ErrForm},
		{"\x0aabc", readNum(9), api.ErrForm},
		{"\x01abc", readNum(0), api.ErrForm},
		{"\xac\x02abc", readNum(299), api.ErrForm},
		{"\x00abc", readNum(-1), api.ErrForm},
		{"\x00abc", readNum(api.MinInt), api.ErrForm},
		{"\x05abc", readNum(-1), api.ErrForm},
		{nine[:8] + "\x7f", readNum(api.MaxInt - 1), api.ErrForm},
		// 2^63 and 2^64 - 1: too great for a whole number, whatever most is.
		{strings.Repeat("\x80", 9) + "\x01", readNum(api.MaxInt), api.ErrForm},
		{nine + "\x01", readNum(api.MaxInt), api.ErrForm},
		{nine + "\x01", readNum(-1), api.ErrForm},
	} {
		for _, ahead := range []string{"", "z"} {
			c := Open([]byte(ahead+x.b), 7)
			c.Take(len(ahead))
			at := 7 + len(ahead)
			if !x.r.zero(c) {
				t.Errorf("%s of %x: not zero", x.r.name, x.b)
			}
			state(t, x.r.name+" of "+x.b, c, 0, at, api.Fault{Err: x.want, At: at})
		}
	}
}

// P4.3: Fail with whatever error.
func TestFail(t *testing.T) {
	for _, e := range []api.Errno{api.ErrArg, api.ErrEnd, api.ErrForm, api.ErrMore, api.ErrSum, api.ErrKind, api.ErrLimit, 99, -1, api.MaxInt, api.MinInt} {
		for _, b := range []string{"", "a", "abc"} {
			c := Open([]byte(b), 5)
			c.Fail(e)
			state(t, "Fail", c, 0, 5, api.Fault{Err: e, At: 5})
			if got := c.End(); got != c.Fault() {
				t.Errorf("End behind Fail(%d): %+v", e, got)
			}
		}
	}
}

// P4.3: Fail of OK changes nothing, without a fault and with one.
func TestFailOK(t *testing.T) {
	c := Open([]byte("ab"), 5)
	c.Fail(api.OK)
	state(t, "without", c, 2, 5, api.Fault{})
	if got := c.Byte(); got != 'a' {
		t.Error(got)
	}
	c.Fail(api.ErrSum)
	c.Fail(api.OK)
	state(t, "with", c, 0, 6, api.Fault{Err: api.ErrSum, At: 6})
}

// P4.3: End tells what is left, and does not fail by this.
func TestEnd(t *testing.T) {
	c := Open([]byte("abc"), 100)
	for i := range 3 {
		for range 2 {
			if got, want := c.End(), (api.Fault{Err: api.ErrMore, At: 100 + i}); got != want {
				t.Errorf("End: %+v, not %+v", got, want)
			}
			state(t, "End", c, 3-i, 100+i, api.Fault{})
		}
		if got := c.Byte(); got != "abc"[i] {
			t.Error(got)
		}
	}
	if got := c.End(); got != (api.Fault{}) {
		t.Errorf("at the end: %+v", got)
	}
	c.Byte()
	if got, want := c.End(), (api.Fault{Err: api.ErrEnd, At: 103}); got != want {
		t.Errorf("of a fault: %+v", got)
	}
}

// P4.4: what was handed in stays, and changing it, or what was answered, changes nothing.
func TestMemory(t *testing.T) {
	room := []byte("abcdefgh--")
	given := room[:8]
	c := Open(given, 0)
	clear(room)
	first := c.Take(3)
	if string(first) != "abc" {
		t.Errorf("kept what was handed in: %q", first)
	}
	clear(first[:cap(first)])
	second := c.Take(3)
	if string(second) != "def" {
		t.Errorf("kept what was answered: %q", second)
	}
	_ = append(second, "zz"...)
	clear(second[:cap(second)])
	if got := c.Byte(); got != 'g' {
		t.Errorf("byte behind: %d", got)
	}
	none := c.Take(0)
	clear(none[:cap(none)])
	if got := c.Byte(); got != 'h' {
		t.Errorf("byte behind none: %d", got)
	}
	if !bytes.Equal(room, make([]byte, 10)) {
		t.Errorf("changed what was handed in: %q", room)
	}
}

// P4.4: reading changes neither the bytes that were handed in, nor their spare room.
func TestGivenStays(t *testing.T) {
	room := []byte("\x05\xac\x02\x05xyz--")
	c := Open(room[:7], 0)
	c.Byte()
	c.Num(300)
	c.Int()
	taken := c.Take(2)
	clear(taken[:cap(taken)])
	c.Take(9)
	c.Fail(api.ErrSum)
	if string(room) != "\x05\xac\x02\x05xyz--" {
		t.Errorf("changed: %q", room)
	}
}

// P4.4: what a failure answers has no bytes either, not even beyond its end.
func TestFailureAnswersNoMemory(t *testing.T) {
	for _, n := range []int{-1, 4, 99} {
		c := Open([]byte("abc"), 0)
		if got := c.Take(n); cap(got) != 0 {
			t.Errorf("Take(%d): %q", n, got[:cap(got)])
		}
	}
}

// P4.5: the first fault stays, and behind it all is zero, whatever is called.
func TestFirstFaultStays(t *testing.T) {
	fails := []func(c *Cursor){
		func(c *Cursor) { c.Take(99) },
		func(c *Cursor) { c.Take(-1) },
		func(c *Cursor) { c.Num(-1) },
		func(c *Cursor) { c.Num(1) },
		func(c *Cursor) { c.Fail(api.ErrSum) },
		func(c *Cursor) { c.Fail(api.ErrEnd) },
		func(c *Cursor) { c.Take(4); c.Byte() },
		func(c *Cursor) { c.Take(4); c.Int() },
	}
	behind := []read{readByte(), readNum(9), readNum(api.MaxInt), readNum(-1), readInt(), readTake(0), readTake(1), readTake(-1)}
	for k, fail := range fails {
		c := Open([]byte{2, 3, 4, 5}, 30)
		fail(c)
		first, at := c.Fault(), c.At()
		if first.Err == api.OK || first.At != at || first.Limit != 0 {
			t.Errorf("fault %d: %+v at %d", k, first, at)
		}
		for range 2 {
			for _, r := range behind {
				if !r.zero(c) {
					t.Errorf("fault %d, %s behind it: not zero", k, r.name)
				}
				state(t, r.name+" behind a fault", c, 0, at, first)
			}
			for _, e := range []api.Errno{api.ErrKind, api.OK, api.ErrMore} {
				c.Fail(e)
				state(t, "Fail behind a fault", c, 0, at, first)
			}
			if got := c.End(); got != first {
				t.Errorf("fault %d, End: %+v", k, got)
			}
		}
	}
}

// model is a cursor as the chapter's words say it, over all bytes at once.
type model struct {
	all   []byte
	gone  int
	start int
	fault api.Fault
}

func (m *model) rest() []byte {
	if m.fault.Err != api.OK {
		return nil
	}
	return m.all[m.gone:]
}

func (m *model) fail(err api.Errno) {
	if m.fault.Err == api.OK && err != api.OK {
		m.fault = api.Fault{Err: err, At: m.start + m.gone}
	}
}

func (m *model) number(most uint64) uint64 {
	n, size, err := varint.Take(m.rest())
	if err == api.OK && n > most {
		err = api.ErrForm
	}
	if err != api.OK {
		m.fail(err)
		return 0
	}
	m.gone += size
	return n
}

func (m *model) take(n int) []byte {
	r := m.rest()
	if n < 0 || n > len(r) {
		m.fail(api.ErrEnd)
		return nil
	}
	m.gone += n
	return bytes.Clone(r[:n])
}

// P4.1 to P4.5: long rows of calls answer what the words say.
func TestAgainstModel(t *testing.T) {
	seed := uint64(1)
	next := func(n uint64) int {
		seed = seed*6364136223846793005 + 1442695040888963407
		return int((seed >> 33) % n)
	}
	for range 3000 {
		b := make([]byte, next(40))
		for i := range b {
			b[i] = byte(next(256) >> next(3))
		}
		m := &model{all: bytes.Clone(b), start: next(1000)}
		c := Open(b, m.start)
		for range 12 {
			same := true
			switch call := next(20); {
			case call < 5:
				want := m.take(1)
				same = append(want, 0)[0] == c.Byte()
			case call < 10:
				most := next(1 << 20)
				same = int(m.number(uint64(most))) == c.Num(most)
			case call < 14:
				same = varint.Zag(m.number(1<<64-1)) == c.Int()
			case call < 19:
				n := next(8) - next(2)*next(2)
				same = bytes.Equal(m.take(n), c.Take(n))
			default:
				e := api.Errno(next(3))
				m.fail(e)
				c.Fail(e)
			}
			if !same {
				t.Fatalf("of %x: answers differ at %d", b, c.At())
			}
			state(t, "model", c, len(m.rest()), m.start+m.gone, m.fault)
		}
	}
}
