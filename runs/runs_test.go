package runs

import (
	"bytes"
	"strings"
	"testing"

	"deckle/api"
	"deckle/varint"
)

// run is the group of a run.
func run(c byte, many int) string {
	return string(varint.Put(nil, uint64(2*(many-3)+1))) + string([]byte{c})
}

// other is another group.
func other(s string) string {
	return string(varint.Put(nil, uint64(2*(len(s)-1)))) + s
}

// apart is many bytes of which no two neighbours are alike.
func apart(many int) string {
	return strings.Repeat("xy", many/2) + "z"[:many%2]
}

// form is what stands in the chapter for some bytes, and what they are laid as.
type form struct{ plain, laid string }

// forms are ordinary inputs and the chapter's edges.
func forms() []form {
	l := []form{
		{"", ""},
		{"aaaabc", "\x03a\x02bc"}, // the chapter's example
		{"a", "\x00a"},
		{"aa", "\x02aa"},
		{"aab", "\x04aab"},
		{"baa", "\x04baa"},
		{"aabb", "\x06aabb"},
		{"aabaa", "\x08aabaa"},
		{"aabbccaa", "\x0eaabbccaa"},
		{"aaa", "\x01a"},
		{"aaaa", "\x03a"},
		{"aaaaa", "\x05a"},
		{"aaaaaa", "\x07a"},
		{"aaabbb", "\x01a\x01b"},
		{"aaaabbbccccc", "\x03a\x01b\x05c"},
		{"aaabbbaaa", "\x01a\x01b\x01a"},
		{"aaab", "\x01a\x00b"},
		{"baaa", "\x00b\x01a"},
		{"bbaaa", "\x02bb\x01a"},
		{"aaabb", "\x01a\x02bb"},
		{"baaab", "\x00b\x01a\x00b"},
		{"aaabccc", "\x01a\x00b\x01c"},
		{"aaabaaa", "\x01a\x00b\x01a"},
		{"aaabbaaa", "\x01a\x02bb\x01a"},
		{"aaabbccddd", "\x01a\x06bbcc\x01d"},
		{"\x00\x00\x00", "\x01\x00"},
		{"\xff\xff\xff\xff", "\x03\xff"},
		{"\x00", "\x00\x00"},
	}
	for _, many := range []int{63, 64, 65, 66, 67, 68, 1000, 8192, 8193, 8194, 8195, 8196, 100000} {
		gap, like := apart(many), strings.Repeat("a", many)
		l = append(l,
			form{gap, other(gap)},
			form{like, run('a', many)},
			form{gap + "aaa" + gap, other(gap) + "\x01a" + other(gap)},
			form{"aaa" + gap + "bbb", "\x01a" + other(gap) + "\x01b"},
			form{"b" + like + "c", "\x00b" + run('a', many) + "\x00c"},
			form{like + strings.Repeat("b", many), run('a', many) + run('b', many)},
		)
	}
	return l
}

// P5.1: the groups of runs, and of what stands between.
func TestEncode(t *testing.T) {
	for _, f := range forms() {
		if got := Encode([]byte(f.plain)); string(got) != f.laid {
			t.Errorf("%.40q: %.40q, not %.40q", f.plain, got, f.laid)
		}
	}
	if got := Encode(nil); len(got) != 0 {
		t.Errorf("nil: %q", got)
	}
}

// P5.1: where a group's number goes from one byte to two, and from two to three.
func TestEncodeNumbers(t *testing.T) {
	for _, x := range []struct {
		many int
		head string
	}{{64, "\x7e"}, {65, "\x80\x01"}, {8192, "\xfe\x7f"}, {8193, "\x80\x80\x01"}} {
		if got := string(Encode([]byte(apart(x.many)))); got != x.head+apart(x.many) {
			t.Errorf("%d apart: %.10q", x.many, got)
		}
	}
	for _, x := range []struct {
		many int
		head string
	}{{66, "\x7f"}, {67, "\x81\x01"}, {8194, "\xff\x7f"}, {8195, "\x81\x80\x01"}} {
		if got := string(Encode([]byte(strings.Repeat("q", x.many)))); got != x.head+"q" {
			t.Errorf("%d alike: %.10q", x.many, got)
		}
	}
}

// P5.2: the bytes of which there is an Encode.
func TestDecode(t *testing.T) {
	for _, f := range forms() {
		got, ok := Decode([]byte(f.laid), len(f.plain))
		if !ok || string(got) != f.plain {
			t.Errorf("%.40q: %.40q %t", f.laid, got, ok)
		}
	}
	if got, ok := Decode(nil, 0); !ok || len(got) != 0 {
		t.Errorf("nil: %q %t", got, ok)
	}
}

// none holds it that there are no n bytes of which laid is the Encode.
func none(t *testing.T, what, laid string, n int) {
	t.Helper()
	if got, ok := Decode([]byte(laid), n); ok || got != nil {
		t.Errorf("%s: %.40q of %d: %.40q %t", what, laid, n, got, ok)
	}
}

// P5.2: none, if n is not how many bytes there are.
func TestDecodeOtherNumber(t *testing.T) {
	for _, f := range forms() {
		many := len(f.plain)
		for _, n := range []int{many - 3, many - 2, many - 1, many + 1, many + 2, many + 3, many + 128, 2*many + 1, -1, -many - 1, -3, api.MinInt, api.MinInt + many, 1 << 31, 1 << 32, many + 1<<32, 1 << 62, 1<<62 + many, api.MaxInt} {
			none(t, "other number", f.laid, n)
		}
	}
}

// P5.2, W1: numbers far above what there is neither come to bytes nor to a panic.
func TestDecodeGreatNumbers(t *testing.T) {
	for _, head := range []uint64{1 << 31, 1<<31 + 1, 1<<32 + 1, 1 << 62, 1<<62 + 1, 1<<63 - 2, 1<<63 - 1, 1 << 63, 1<<63 + 1, 1<<64 - 2, 1<<64 - 1} {
		group := string(varint.Put(nil, head)) + "a"
		for _, n := range []int{-1, 0, 1, 3, 4, 1000, 1<<31 - 2, 1<<31 - 1, 1 << 40, api.MaxInt - 1, api.MaxInt} {
			none(t, "great", group, n)
			none(t, "two great", group+group, n)
			none(t, "great behind", "\x00b"+group, n)
		}
	}
	// More bytes than the document's bound: no panic, whatever is answered.
	for _, many := range []int{1 << 31, 1 << 40, 1 << 61} {
		none(t, "beyond the bound", run('a', many), many)
	}
	// Runs whose bytes come to n only by wrap-round.
	wrap := string(varint.Put(nil, 1<<63-1)) + "a"
	none(t, "wrap", strings.Repeat(wrap, 4), 8)
	none(t, "wrap", wrap+"\x00b"+wrap, 5)
}

// P5.2: none, if bytes end too soon, or are left.
func TestDecodeEnds(t *testing.T) {
	for _, f := range forms() {
		for k := range min(len(f.laid), 200) {
			none(t, "cut", f.laid[:k], len(f.plain))
		}
		if len(f.laid) > 0 {
			none(t, "cut", f.laid[:len(f.laid)-1], len(f.plain))
			none(t, "cut", f.laid[:len(f.laid)-1], len(f.plain)-1)
		}
		for _, more := range []string{"\x00", "\x01", "\x80", "a", "\x00a", "\x01a"} {
			none(t, "behind", f.laid+more, len(f.plain))
		}
	}
	for _, laid := range []string{"\x01", "\x00", "\x02a", "\x04ab", "\x80", "\x81", "\x80\x01", "\x81\x01", "\xff\xff\xff\xff\xff\xff\xff\xff\xff", "\x01a\x80", "\x01a\x01", "\x00a\x00"} {
		for n := range 70 {
			none(t, "end", laid, n)
		}
	}
}

// P5.2, P5.4: none, if it is not the Encode of what it would come to.
func TestDecodeOtherForms(t *testing.T) {
	for _, x := range []struct {
		what, laid string
		n          int
	}{
		{"a run as two", "\x01a\x01a", 6},
		{"a run as two", "\x05a\x01a", 8},
		{"a run as three", "\x01a\x01a\x01a", 9},
		{"a run as another group", "\x04aaa", 3},
		{"a run as another group", "\x06aaaa", 4},
		{"two others side by side", "\x00a\x00b", 2},
		{"two others side by side", "\x02aa\x00b", 3},
		{"two others side by side", "\x00a\x02ab", 3},
		{"two others that make a run", "\x00a\x02aa", 3},
		{"two others behind a run", "\x01a\x00b\x00c", 5},
		{"two others ahead of a run", "\x00b\x00c\x01a", 5},
		{"another that holds a run", "\x08baaac", 5},
		{"another that begins with a run", "\x06aaab", 4},
		{"another that ends with a run", "\x06baaa", 4},
		{"another that ends like the run behind", "\x00a\x01a", 4},
		{"another that ends like the run behind", "\x02ba\x01a", 5},
		{"another that ends like the run behind", "\x04baa\x03a", 7},
		{"another that begins like the run ahead", "\x01a\x00a", 4},
		{"another that begins like the run ahead", "\x01a\x02ab", 5},
		{"another that begins like the run ahead", "\x03a\x02aa", 6},
		{"another between like runs", "\x01a\x00a\x01a", 7},
		{"a number too long", "\x80\x00a", 1},
		{"a number too long", "\x81\x00a", 3},
		{"a number too long", "\x82\x00ab", 2},
		{"a number too long", "\x81\x80\x00a", 3},
		{"a number too long, behind", "\x01a\x80\x00b", 4},
		{"a number too great", "\xff\xff\xff\xff\xff\xff\xff\xff\xff\x02a", 3},
		{"a number too great", "\x81\x80\x80\x80\x80\x80\x80\x80\x80\x02a", 3},
	} {
		none(t, x.what, x.laid, x.n)
	}
	gap := apart(65)
	none(t, "two others of one and two bytes", other(gap)+other("q"), 66)
	none(t, "two others of one and two bytes", other("q")+other(gap), 66)
}

// rows are all rows of at most so many bytes, each below some number.
func rows(below byte, most int) []string {
	all, last := []string{""}, []string{""}
	for range most {
		var next []string
		for _, s := range last {
			for c := range below {
				next = append(next, s+string([]byte{c}))
			}
		}
		all, last = append(all, next...), next
	}
	return all
}

// model is Encode told otherwise: each byte is marked by whether it has two like neighbours, ahead, behind, or about it.
func model(s string) string {
	inRun := func(i int) bool {
		for from := max(i-2, 0); from <= i && from+3 <= len(s); from++ {
			if s[from] == s[from+1] && s[from] == s[from+2] {
				return true
			}
		}
		return false
	}
	laid := ""
	for i := 0; i < len(s); {
		k := i + 1
		if inRun(i) {
			for k < len(s) && s[k] == s[i] {
				k++
			}
			laid += run(s[i], k-i)
		} else {
			for k < len(s) && !inRun(k) {
				k++
			}
			laid += other(s[i:k])
		}
		i = k
	}
	return laid
}

// P5.1, P5.2, P5.4: every row of at most five bytes below 6 has its form, and every such row of bytes is a form of these, or of none.
func TestAllShort(t *testing.T) {
	const most = 5
	all := rows(most+1, most)
	back := map[string]string{}
	for _, s := range all {
		laid := string(Encode([]byte(s)))
		if laid != model(s) {
			t.Fatalf("%q: %q, not %q", s, laid, model(s))
		}
		if got, ok := Decode([]byte(laid), len(s)); !ok || string(got) != s {
			t.Fatalf("%q: back as %q %t", s, got, ok)
		}
		if was, twice := back[laid]; twice {
			t.Fatalf("%q and %q: both %q", s, was, laid)
		}
		back[laid] = s
	}
	for _, laid := range all {
		want, known := back[laid]
		for n := -1; n <= most; n++ {
			got, ok := Decode([]byte(laid), n)
			if right := known && n == len(want); ok != right || right && string(got) != want || !right && got != nil {
				t.Fatalf("%q of %d: %q %t", laid, n, got, ok)
			}
		}
	}
}

// P5.1, P5.4: longer rows of like and unlike bytes, as the model says, and back.
func TestLong(t *testing.T) {
	seed := uint32(1)
	draw := func(below int) int {
		seed = seed*1664525 + 1013904223
		return int(seed>>16) % below
	}
	for range 400 {
		var b []byte
		for range draw(30) {
			if draw(2) == 0 {
				b = append(b, bytes.Repeat([]byte{byte(draw(3))}, draw(100))...)
			} else {
				b = append(b, apart(draw(100))...)
			}
		}
		laid := Encode(b)
		if string(laid) != model(string(b)) {
			t.Fatalf("%q: %q", b, laid)
		}
		if got, ok := Decode(laid, len(b)); !ok || !bytes.Equal(got, b) {
			t.Fatalf("%q: back as %q %t", b, got, ok)
		}
		if len(laid) == 0 {
			continue
		}
		// One byte changed: none, or bytes whose Encode it is.
		laid[draw(len(laid))] ^= byte(1 + draw(255))
		for n := range len(b) + 300 {
			if got, ok := Decode(laid, n); ok && (len(got) != n || model(string(got)) != string(laid)) {
				t.Fatalf("%q of %d: %q", laid, n, got)
			}
		}
	}
}

// wipe clears all of a list's memory, spare room too.
func wipe(b []byte) {
	clear(b[:cap(b)])
}

// P5.3, W6: arguments and their spare room stay as they were, and share no memory with what is answered.
func TestMemory(t *testing.T) {
	for _, f := range forms() {
		for _, x := range []struct {
			in, want string
			call     func(b []byte) []byte
		}{
			{f.plain, f.laid, Encode},
			{f.laid, f.plain, func(b []byte) []byte {
				got, _ := Decode(b, len(f.plain))
				return got
			}},
			{f.laid, "", func(b []byte) []byte {
				got, _ := Decode(b, len(f.plain)+1)
				return got
			}},
		} {
			whole := []byte("ahead" + x.in + "behind")
			was := string(whole)
			b := whole[len("ahead") : len("ahead")+len(x.in)]
			first, second := x.call(b), x.call(b)
			if string(whole) != was {
				t.Fatalf("%.40q: changed", x.in)
			}
			wipe(first)
			if string(whole) != was {
				t.Fatalf("%.40q: shares memory with the answer", x.in)
			}
			wipe(whole)
			if string(second) != x.want {
				t.Fatalf("%.40q: another answer shares memory", x.in)
			}
		}
	}
}
