// Package letters: the heads of letters, and what is a letter.
package letters

import (
	"pawl/api"
	"pawl/numbers"
	"pawl/quad"
	"pawl/texts"
)

// Letter is what a letter tells before it is opened.
type Letter struct {
	Step, Count, Prev, Public int
	Head, Sealed              string
}

// atPublic is where the public number stands in a head.
const atPublic = 3

// Head tells the bytes of a head.
func Head(step int, count int, prev int, public int) string {
	return string([]byte{byte(step), byte(count), byte(prev)}) + quad.Text(uint32(public))
}

// Read tells the letter of a text, and whether the text is one.
func Read(text string) (Letter, bool) {
	size := len(text) - api.HeadSize
	if size < api.TagSize || size > api.MaxText+api.TagSize {
		return Letter{}, false
	}
	l := Letter{
		Step:   texts.Byte(text, 0),
		Count:  texts.Byte(text, 1),
		Prev:   texts.Byte(text, 2),
		Public: int(quad.Number(text, atPublic)),
		Head:   texts.Part(text, 0, api.HeadSize),
		Sealed: texts.Part(text, api.HeadSize, size),
	}
	return l, isRight(l)
}

func isRight(l Letter) bool {
	// At the last step nothing is sent any more.
	if l.Step < 1 || l.Step >= api.MaxStep {
		return false
	}
	return l.Count < api.MaxCount && l.Prev <= api.MaxCount && numbers.IsPublic(l.Public)
}
