// Package keys: the mix of a key and a text, and sealing under a key.
// Package pawl tests the lengths of what it hands in here; with another length nothing fails, but what is answered means nothing.
package keys

import "pawl/quad"

const rounds = 3

// Mix makes a key of a key and a text.
func Mix(key string, text string) string {
	a := quad.Number(key, 0)
	b := quad.Number(key, quad.Size)
	for at := 0; at < len(text); at += quad.Size {
		a = a ^ quad.Number(text, at)
		a, b = stir(a, b)
	}
	// Texts that differ only in the noughts at their end fill up alike: the length tells them apart.
	b = b ^ uint32(len(text))
	a, b = stir(a, b)
	a, b = stir(a, b)
	return quad.Text(a) + quad.Text(b)
}

func stir(a uint32, b uint32) (uint32, uint32) {
	for i := uint32(1); i <= rounds; i++ {
		a = a + b + i
		b = (b<<7 | b>>25) ^ a
		a = (a<<13 | a>>19) ^ b
		b = b + a
	}
	return a, b
}

// Turn makes of a root, and of what two numbers share, the key that a chain begins with and the root that follows.
func Turn(root string, shared int) (string, string) {
	bytes := quad.Text(uint32(shared))
	return Mix(root, "c"+bytes), Mix(root, "r"+bytes)
}

// Link tells the next key of a chain, and the chain behind it.
func Link(chain string) (string, string) {
	return Mix(chain, "m"), Mix(chain, "n")
}
