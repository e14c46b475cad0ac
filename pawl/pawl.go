// Package pawl: letters between two parties, under keys that turn on, on disks that may lose power: see DOC.md.
package pawl

import (
	"pawl/api"
	"pawl/boxes"
	"pawl/disks"
	"pawl/keys"
	"pawl/letters"
	"pawl/numbers"
	"pawl/plans"
	"pawl/store"
	"pawl/talk"
	"pawl/texts"
)

// Mix makes a key of a key and a text (P3).
func Mix(key string, text string) (string, api.Errno) {
	if len(key) != api.KeySize {
		return "", api.ErrKey
	}
	if len(text) > api.MaxInput {
		return "", api.ErrLong
	}
	return keys.Mix(key, text), api.OK
}

// Public tells the public number of a secret one (P4).
func Public(x int) (int, api.Errno) {
	if !numbers.IsSecret(x) {
		return 0, api.ErrNumber
	}
	return numbers.Public(x), api.OK
}

// Shared tells what a secret number shares with a public one (P4).
func Shared(x int, y int) (int, api.Errno) {
	if !numbers.IsSecret(x) || !numbers.IsPublic(y) {
		return 0, api.ErrNumber
	}
	return numbers.Shared(x, y), api.OK
}

// Seal seals a text under a key and a head (P5).
func Seal(key string, head string, text string) (string, api.Errno) {
	if len(key) != api.KeySize {
		return "", api.ErrKey
	}
	if len(head) != api.HeadSize {
		return "", api.ErrFrame
	}
	if len(text) > api.MaxText {
		return "", api.ErrLong
	}
	return keys.Seal(key, head, text), api.OK
}

// Unseal opens what is sealed (P5).
func Unseal(key string, head string, sealed string) (string, api.Errno) {
	if len(key) != api.KeySize {
		return "", api.ErrKey
	}
	if len(head) != api.HeadSize || len(sealed) < api.TagSize {
		return "", api.ErrFrame
	}
	if len(sealed) > api.MaxText+api.TagSize {
		return "", api.ErrLong
	}
	text, opens := keys.Unseal(key, head, sealed)
	if !opens {
		return "", api.ErrTag
	}
	return text, api.OK
}

// Apply carries a plan out (P6).
func Apply(disk string, plan string) (string, api.Errno) {
	records, e := readPlan(disk, plan)
	if e != api.OK {
		return "", e
	}
	return plans.CarryOut(disk, records), api.OK
}

// Crash carries a plan out till the power fails (P7).
func Crash(disk string, plan string, n int, keep string) (string, api.Errno) {
	records, e := readPlan(disk, plan)
	if e != api.OK {
		return "", e
	}
	if n < 0 || n > len(records) {
		return "", api.ErrNumber
	}
	if len(keep) > api.MaxPlan {
		return "", api.ErrLong
	}
	return plans.Fail(disk, records, n, keep), api.OK
}

func readPlan(disk string, plan string) ([]plans.Record, api.Errno) {
	if !disks.IsDisk(disk) {
		return nil, api.ErrDisk
	}
	records, right := plans.Read(plan, disks.Sectors(disk))
	if !right {
		return nil, api.ErrPlan
	}
	return records, api.OK
}

// Need tells how many sectors a box needs (P8).
func Need(cap int) (int, api.Errno) {
	if !isWithin(cap, api.MaxCap) {
		return 0, api.ErrNumber
	}
	return boxes.Need(cap), api.OK
}

// Create makes a box on a blank disk: a plan (P8).
func Create(disk string, c api.Config, secret string, draw int) (string, api.Errno) {
	if !disks.IsDisk(disk) {
		return "", api.ErrDisk
	}
	if !isConfig(c) || !numbers.IsSecret(draw) {
		return "", api.ErrNumber
	}
	if len(secret) != api.KeySize {
		return "", api.ErrKey
	}
	if disks.Sectors(disk) < boxes.Need(c.Cap) {
		return "", api.ErrSmall
	}
	if !texts.IsNoughts(disk) {
		return "", api.ErrUsed
	}
	return store.Create(disk, boxes.New(c, secret, draw)), api.OK
}

func isConfig(c api.Config) bool {
	if !isWithin(c.Role, 1) || !isWithin(c.Skip, api.MaxSkip) || !isWithin(c.Cap, api.MaxCap) {
		return false
	}
	if c.Role == 1 {
		return c.Peer == 0
	}
	return numbers.IsPublic(c.Peer)
}

func isWithin(n int, most int) bool { return n >= 0 && n <= most }

// Look tells what a box is like (P9).
func Look(disk string) (api.View, api.Errno) {
	state, e := openDisk(disk)
	if e != api.OK {
		return api.View{}, e
	}
	b := state.Box
	return api.View{
		Role: b.Role, Step: b.Step, Sent: b.Sent, Got: b.Got, Prev: b.Prev, Skip: b.Skip, Cap: b.Cap,
		Public: numbers.Public(b.Secret), Peer: b.Peer, Kept: keptLetters(b.Kept),
	}, api.OK
}

// openDisk tells what is on a good disk; of another the disk's errors.
func openDisk(disk string) (store.State, api.Errno) {
	if !disks.IsDisk(disk) {
		return store.State{}, api.ErrDisk
	}
	state := store.Find(disk)
	switch state.Sort {
	case store.Good:
		return state, api.OK
	case store.Blank:
		return store.State{}, api.ErrBlank
	case store.Torn:
		return store.State{}, api.ErrTorn
	}
	return store.State{}, api.ErrStore
}

// keptLetters tells which letters the kept keys are for, without the keys.
func keptLetters(kept []boxes.Kept) string {
	letters := []byte{}
	for i := 0; i < len(kept); i++ {
		letters = append(letters, byte(kept[i].Step), byte(kept[i].Count))
	}
	return string(letters)
}

// Recover repairs a disk behind a failure: a plan (P10).
func Recover(disk string) (string, api.Errno) {
	if !disks.IsDisk(disk) {
		return "", api.ErrDisk
	}
	state := store.Find(disk)
	if state.Sort == store.Bad {
		return "", api.ErrStore
	}
	return store.Recover(disk, state), api.OK
}

// Send writes a letter: the letter, a plan (P11).
func Send(disk string, text string) (string, string, api.Errno) {
	state, e := openDisk(disk)
	if e != api.OK {
		return "", "", e
	}
	if len(text) > api.MaxText {
		return "", "", api.ErrLong
	}
	if state.Box.Step == 0 {
		return "", "", api.ErrMute
	}
	if state.Box.Sent >= api.MaxCount || state.Box.Step >= api.MaxStep {
		return "", "", api.ErrSpent
	}
	letter, b := talk.Send(state.Box, text)
	return letter, store.Replace(disk, state, b), api.OK
}

// Receive opens a letter: its text, a plan (P12, P13).
func Receive(disk string, letter string, draw int) (string, string, api.Errno) {
	state, e := openDisk(disk)
	if e != api.OK {
		return "", "", e
	}
	if !numbers.IsSecret(draw) {
		return "", "", api.ErrNumber
	}
	l, right := letters.Read(letter)
	if !right {
		return "", "", api.ErrFrame
	}
	text, b, e := talk.Receive(state.Box, l, draw)
	if e != api.OK {
		return "", "", e
	}
	return text, store.Replace(disk, state, b), api.OK
}
