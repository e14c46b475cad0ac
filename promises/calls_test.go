package promises

import (
	"math/rand"
	"strings"

	"pawl/api"
	"pawl/pawl"
)

// answer has room for what any call answers.
type answer struct {
	text, more string
	number     int
	view       api.View
	e          api.Errno
}

// inputs has what any call may be asked.
type inputs struct {
	texts   [3]string
	numbers [2]int
	config  api.Config
}

var calls = []struct {
	name string
	ask  func(in inputs) answer
}{
	{"Mix", func(in inputs) answer {
		text, e := pawl.Mix(in.texts[0], in.texts[1])
		return answer{text: text, e: e}
	}},
	{"Public", func(in inputs) answer {
		number, e := pawl.Public(in.numbers[0])
		return answer{number: number, e: e}
	}},
	{"Shared", func(in inputs) answer {
		number, e := pawl.Shared(in.numbers[0], in.numbers[1])
		return answer{number: number, e: e}
	}},
	{"Seal", func(in inputs) answer {
		text, e := pawl.Seal(in.texts[0], in.texts[1], in.texts[2])
		return answer{text: text, e: e}
	}},
	{"Unseal", func(in inputs) answer {
		text, e := pawl.Unseal(in.texts[0], in.texts[1], in.texts[2])
		return answer{text: text, e: e}
	}},
	{"Apply", func(in inputs) answer {
		text, e := pawl.Apply(in.texts[0], in.texts[1])
		return answer{text: text, e: e}
	}},
	{"Crash", func(in inputs) answer {
		text, e := pawl.Crash(in.texts[0], in.texts[1], in.numbers[0], in.texts[2])
		return answer{text: text, e: e}
	}},
	{"Need", func(in inputs) answer {
		number, e := pawl.Need(in.numbers[0])
		return answer{number: number, e: e}
	}},
	{"Create", func(in inputs) answer {
		text, e := pawl.Create(in.texts[0], in.config, in.texts[1], in.numbers[0])
		return answer{text: text, e: e}
	}},
	{"Look", func(in inputs) answer {
		view, e := pawl.Look(in.texts[0])
		return answer{view: view, e: e}
	}},
	{"Recover", func(in inputs) answer {
		text, e := pawl.Recover(in.texts[0])
		return answer{text: text, e: e}
	}},
	{"Send", func(in inputs) answer {
		text, more, e := pawl.Send(in.texts[0], in.texts[1])
		return answer{text: text, more: more, e: e}
	}},
	{"Receive", func(in inputs) answer {
		text, more, e := pawl.Receive(in.texts[0], in.texts[1], in.numbers[0])
		return answer{text: text, more: more, e: e}
	}},
}

// edgeLengths lie at and beside the bounds of all that the calls take.
var edgeLengths = []int{0, 1, 6, 7, 8, 9, 14, 15, 31, 32, 33, 40, 41, 47, 48, 49, 55, 56, 64, 99, 100, 101, 160, 199, 200, 201, 224, 255, 256, 257, 1248, 1280, 1281, 1312, 3300, 3301}

var edgeNumbers = append(append(append([]int{-3, 6, 13, 30, 31, 49, 50, 51, 100, 101}, secretNumbers...), publicNumbers...), neitherNumbers...)

func wildText(from *rand.Rand) string {
	length := edgeLengths[from.Intn(len(edgeLengths))]
	switch from.Intn(4) {
	case 0:
		return strings.Repeat("\x00", length)
	case 1:
		return strings.Repeat("\xff", length)
	case 2:
		return plain + strings.Repeat("\x01", length)
	}
	return someText(length)
}

func wildNumber(from *rand.Rand) int { return edgeNumbers[from.Intn(len(edgeNumbers))] }

// wildConfig is a right one as often as not.
func wildConfig(from *rand.Rand) api.Config {
	if from.Intn(2) == 0 {
		return api.Config{Role: wildNumber(from), Skip: wildNumber(from), Cap: wildNumber(from), Peer: wildNumber(from)}
	}
	role := from.Intn(2)
	return api.Config{Role: role, Skip: from.Intn(13), Cap: from.Intn(31), Peer: (1 - role) * (1 + from.Intn(2147483646))}
}

// wildDisk is one of any sort, whole or with a byte turned.
func wildDisk(from *rand.Rand) string {
	disks := someDisks()
	disk := disks[from.Intn(len(disks))]
	if from.Intn(2) == 0 {
		return disk
	}
	return poke(disk, from.Intn(len(disk)), string([]byte{byte(from.Intn(256))}))
}

// wildPlan is one for most disks, whole or cut off.
func wildPlan(from *rand.Rand) string {
	plan := somePlan(from, from.Intn(103), 1+from.Intn(41))
	if from.Intn(2) == 0 {
		return plan
	}
	return plan[:from.Intn(len(plan)+1)]
}

// wildLetter is one that fourth can open, whole or with a byte turned.
func wildLetter(from *rand.Rand) string {
	letters := someLetters()
	letter := letters[from.Intn(len(letters))]
	if from.Intn(2) == 0 {
		return letter
	}
	return poke(letter, from.Intn(len(letter)), string([]byte{byte(from.Intn(256))}))
}

// wildInputs are right ones often enough for a call to come past its first errors.
func wildInputs(from *rand.Rand) inputs {
	var in inputs
	for i := range in.texts {
		in.texts[i] = wildText(from)
	}
	switch from.Intn(4) {
	case 0:
		in.texts[0] = someKeys[from.Intn(len(someKeys))]
	case 1, 2:
		in.texts[0] = wildDisk(from)
	}
	switch from.Intn(5) {
	case 0:
		in.texts[1] = someHeads[from.Intn(len(someHeads))]
	case 1:
		in.texts[1] = someKeys[from.Intn(len(someKeys))]
	case 2:
		in.texts[1] = wildPlan(from)
	case 3:
		in.texts[0], in.texts[1] = fourth().disk(from.Intn(2), from.Intn(3)), wildLetter(from)
	}
	for i := range in.numbers {
		in.numbers[i] = wildNumber(from)
	}
	in.config = wildConfig(from)
	return in
}
