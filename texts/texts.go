// Package texts: the bytes and parts of texts, and noughts. No place and no size is a wrong one here.
package texts

// Byte tells the byte at a place of a text; what lies outside the text counts as noughts.
func Byte(text string, at int) int {
	if at < 0 || at >= len(text) {
		return 0
	}
	return int(text[at])
}

// Part tells so many bytes of a text from a place on; it is empty if the text has not all of them.
func Part(text string, from int, size int) string {
	if from < 0 || from > len(text) || size < 0 || size > len(text)-from {
		return ""
	}
	return text[from : from+size]
}

// Noughts tells so many noughts; fewer than none are none.
func Noughts(size int) string {
	if size < 0 {
		return ""
	}
	return string(make([]byte, size))
}

// IsNoughts tells whether a text has nothing but noughts.
func IsNoughts(text string) bool {
	for i := 0; i < len(text); i++ {
		if text[i] != 0 {
			return false
		}
	}
	return true
}
