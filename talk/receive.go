package talk

import (
	"pawl/api"
	"pawl/boxes"
	"pawl/keys"
	"pawl/letters"
	"pawl/numbers"
)

// Receive tells the text of a letter and the box behind it, or why the letter is refused.
func Receive(b boxes.Box, l letters.Letter, draw int) (string, boxes.Box, api.Errno) {
	key, after, e := keyOf(b, l, draw)
	if e != api.OK {
		return "", boxes.Box{}, e
	}
	text, opens := keys.Unseal(key, l.Head, l.Sealed)
	if !opens {
		return "", boxes.Box{}, api.ErrTag
	}
	after.Kept = greatest(after.Kept, after.Cap)
	return text, after, api.OK
}

// keyOf tells a letter's key, and the box that has used it; more keys than the cap may still be kept in that.
func keyOf(b boxes.Box, l letters.Letter, draw int) (string, boxes.Box, api.Errno) {
	if l.Step > b.Step+1 || l.Step%2 == b.Step%2 {
		return "", boxes.Box{}, api.ErrStep
	}
	if l.Step == b.Step+1 {
		return turning(b, l, draw)
	}
	if l.Step == b.Step-1 && l.Count >= b.Got {
		return due(b, l)
	}
	return old(b, l)
}

func old(b boxes.Box, l letters.Letter) (string, boxes.Box, api.Errno) {
	key, found := find(b.Kept, l.Step, l.Count)
	if !found {
		return "", boxes.Box{}, api.ErrGone
	}
	b.Kept = without(b.Kept, l.Step, l.Count)
	return key, b, api.OK
}

func due(b boxes.Box, l letters.Letter) (string, boxes.Box, api.Errno) {
	after, fits := passOver(b, l.Count)
	if !fits {
		return "", boxes.Box{}, api.ErrSkip
	}
	key, next := keys.Link(after.In)
	after.In = next
	after.Got = l.Count + 1
	return key, after, api.OK
}

func turning(b boxes.Box, l letters.Letter, draw int) (string, boxes.Box, api.Errno) {
	// Before step 2 nothing has come, so no chain can have letters left.
	if b.Step >= 2 {
		ended, fits := passOver(b, l.Prev)
		if !fits {
			return "", boxes.Box{}, api.ErrSkip
		}
		b = ended
	}
	turned := turn(b, l, draw)
	return due(turned, l)
}

// turn tells the box with the chains that begin with a letter's public number: the other's first, then its own.
func turn(b boxes.Box, l letters.Letter, draw int) boxes.Box {
	in, between := keys.Turn(b.Root, numbers.Shared(b.Secret, l.Public))
	out, root := keys.Turn(between, numbers.Shared(draw, l.Public))
	b.In = in
	b.Out = out
	b.Root = root
	b.Secret = draw
	b.Peer = l.Public
	b.Step = l.Step + 1
	b.Prev = b.Sent
	b.Sent = 0
	b.Got = 0
	return b
}

// passOver tells the box that keeps the keys from the one due up to below a count, and whether it may keep so many.
func passOver(b boxes.Box, count int) (boxes.Box, bool) {
	if count <= b.Got {
		return b, true
	}
	step := b.Step - 1
	if ofStep(b.Kept, step)+count-b.Got > b.Skip {
		return boxes.Box{}, false
	}
	// The order stays right: no key that is kept is of a later step, and those of this one have counts below got.
	kept := copyOf(b.Kept)
	for b.Got < count {
		key, next := keys.Link(b.In)
		kept = append(kept, boxes.Kept{Step: step, Count: b.Got, Key: key})
		b.In = next
		b.Got++
	}
	b.Kept = kept
	return b, true
}
