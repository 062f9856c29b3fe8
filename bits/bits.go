// Package bits is layer 1: bits as bytes: see shared/doc/01-bits.md.
package bits

// perByte is how many bits a byte has.
const perByte = 8

// Bytes is how many bytes n bits have.
func Bytes(n int) int {
	if n < 0 {
		return 0
	}
	// The rest is held against 0, as n with 7 more may be beyond the greatest int.
	whole := n / perByte
	if n%perByte != 0 {
		whole++
	}
	return whole
}

// Pack lays the numbers' bits into bytes, the first into the lowest bit of the first byte.
func Pack(l []int) []byte {
	b := make([]byte, Bytes(len(l)))
	for i, v := range l {
		if v != 0 {
			b[i/perByte] |= 1 << (i % perByte)
		}
	}
	return b
}

// Unpack is the n numbers of which b is the Pack, if there are such.
func Unpack(b []byte, n int) ([]int, bool) {
	// The lengths come first, so that no n takes more room than b allows.
	if n < 0 || len(b) != Bytes(n) || setBehind(b, n) {
		return nil, false
	}
	l := make([]int, n)
	for i := range l {
		l[i] = int(b[i/perByte] >> (i % perByte) & 1)
	}
	return l, true
}

// setBehind is whether a bit is set behind the first n, of which the last one stands in b's last byte.
func setBehind(b []byte, n int) bool {
	used := n % perByte
	return used != 0 && b[len(b)-1]>>used != 0
}
