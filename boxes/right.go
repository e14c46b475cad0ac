package boxes

import (
	"pawl/api"
	"pawl/numbers"
)

// isRight tells whether a party can have such a box.
func isRight(b Box) bool {
	return numbersAreRight(b) && beginningIsRight(b) && keptAreRight(b)
}

func numbersAreRight(b Box) bool {
	// Role 0 begins at step 1, and each turn leads two steps on.
	if b.Role > 1 || b.Step > api.MaxStep || b.Step%2 == b.Role {
		return false
	}
	if b.Sent > api.MaxCount || b.Got > api.MaxCount || b.Prev > api.MaxCount {
		return false
	}
	return b.Skip <= api.MaxSkip && numbers.IsSecret(b.Secret)
}

// beginningIsRight tells whether nothing is there that only later steps bring.
func beginningIsRight(b Box) bool {
	if b.Step == 0 {
		if b.Sent != 0 || b.Out != NoKey || b.Peer != 0 {
			return false
		}
	} else if !numbers.IsPublic(b.Peer) {
		return false
	}
	if b.Step <= 1 && (b.Got != 0 || b.In != NoKey) {
		return false
	}
	return b.Step > 2 || b.Prev == 0
}

func keptAreRight(b Box) bool {
	ofStep := 0
	for i := 0; i < len(b.Kept); i++ {
		if !keptIsRight(b, b.Kept[i]) {
			return false
		}
		if i > 0 && !isBefore(b.Kept[i-1], b.Kept[i]) {
			return false
		}
		if i > 0 && b.Kept[i-1].Step != b.Kept[i].Step {
			ofStep = 0
		}
		ofStep++
		if ofStep > b.Skip {
			return false
		}
	}
	return true
}

// keptIsRight tells whether the other may have written a letter with this key that the box has not got.
func keptIsRight(b Box, k Kept) bool {
	if k.Step < 1 || k.Step >= b.Step || k.Step%2 == b.Step%2 || k.Count >= api.MaxCount {
		return false
	}
	return k.Step != b.Step-1 || k.Count < b.Got
}

func isBefore(k Kept, l Kept) bool {
	return k.Step < l.Step || k.Step == l.Step && k.Count < l.Count
}
