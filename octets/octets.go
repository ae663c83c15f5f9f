// Package octets: numbers in bytes, the highest byte first.
package octets

// Put puts a number's lowest bytes behind b.
func Put(b []byte, v, n int) []byte {
	return behind(b, uint64(v), min(max(n, 0), 8))
}

// Get is the number whose bytes stand at a place.
func Get(b []byte, at, n int) (int, bool) {
	// Eight bytes could be more than an int holds.
	if n < 1 || n > 7 || !stand(b, at, n) {
		return 0, false
	}
	return int(number(b[at : at+n])), true
}

// Signed is the same, with a sign.
func Signed(b []byte, at, n int) (int, bool) {
	if n < 1 || n > 8 || !stand(b, at, n) {
		return 0, false
	}
	// Shifted up and down again, the number's highest bit fills all above it.
	above := 64 - 8*n
	return int(int64(number(b[at:at+n])<<above) >> above), true
}

// PutId puts an identity behind b.
func PutId(b []byte, v uint64) []byte {
	return behind(b, v, 8)
}

// GetId is the identity that stands at a place.
func GetId(b []byte, at int) (uint64, bool) {
	if !stand(b, at, 8) {
		return 0, false
	}
	return number(b[at : at+8]), true
}

// Zero tells whether so many noughts stand at a place.
func Zero(b []byte, at, n int) bool {
	if !stand(b, at, n) {
		return false
	}
	end := at + n
next:
	if at == end {
		return true
	}
	if b[at] != 0 {
		return false
	}
	at++
	goto next
}

// stand tells whether n bytes stand from at on.
func stand(b []byte, at, n int) bool {
	// What is left behind at is asked, since at + n may leave an int.
	return at >= 0 && n >= 0 && n <= len(b)-at
}

// number is what all of b says.
func number(b []byte) uint64 {
	var v uint64
	i := 0
next:
	if i == len(b) {
		return v
	}
	v = v<<8 | uint64(b[i])
	i++
	goto next
}

// behind is b with v's n lowest bytes behind it.
func behind(b []byte, v uint64, n int) []byte {
	// New memory, since b's spare room is another's.
	all := make([]byte, len(b)+n)
	at := copy(all, b)
next:
	if at == len(all) {
		return all
	}
	n--
	all[at] = byte(v >> (8 * n))
	at++
	goto next
}
