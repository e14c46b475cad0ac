package talk

import "pawl/boxes"

func find(kept []boxes.Kept, step int, count int) (string, bool) {
	for i := 0; i < len(kept); i++ {
		if kept[i].Step == step && kept[i].Count == count {
			return kept[i].Key, true
		}
	}
	return "", false
}

func without(kept []boxes.Kept, step int, count int) []boxes.Kept {
	others := []boxes.Kept{}
	for i := 0; i < len(kept); i++ {
		if kept[i].Step != step || kept[i].Count != count {
			others = append(others, kept[i])
		}
	}
	return others
}

func ofStep(kept []boxes.Kept, step int) int {
	many := 0
	for i := 0; i < len(kept); i++ {
		if kept[i].Step == step {
			many++
		}
	}
	return many
}

func copyOf(kept []boxes.Kept) []boxes.Kept {
	return greatest(kept, len(kept))
}

// greatest tells the keys without the least of them, so that at most so many are left. They stand in rising order.
func greatest(kept []boxes.Kept, most int) []boxes.Kept {
	left := []boxes.Kept{}
	for i := 0; i < len(kept); i++ {
		if len(kept)-i <= most {
			left = append(left, kept[i])
		}
	}
	return left
}
