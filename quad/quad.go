// Package quad: numbers as four bytes, the first of them the highest.
package quad

// Size is how many bytes a number has.
const Size = 4

// Number tells the number of the four bytes of a text from a place on.
// What lies outside the text counts as noughts: so the mix fills up its last bytes, and no place is a wrong one.
func Number(text string, from int) uint32 {
	n := uint32(0)
	for i := 0; i < Size; i++ {
		at := from + i
		n = n << 8
		if at >= 0 && at < len(text) {
			n = n | uint32(text[at])
		}
	}
	return n
}

// Text tells the four bytes of a number.
func Text(n uint32) string {
	return string([]byte{byte(n >> 24), byte(n >> 16), byte(n >> 8), byte(n)})
}
