// Package talk: how a box goes on with the letters that it writes and takes. A box that is handed in stays as it is.
package talk

import (
	"pawl/boxes"
	"pawl/keys"
	"pawl/letters"
	"pawl/numbers"
)

// Send tells the next letter of a box that can write one, and the box behind it.
func Send(b boxes.Box, text string) (string, boxes.Box) {
	head := letters.Head(b.Step, b.Sent, b.Prev, numbers.Public(b.Secret))
	key, next := keys.Link(b.Out)
	b.Out = next
	b.Sent++
	return head + keys.Seal(key, head, text), b
}
