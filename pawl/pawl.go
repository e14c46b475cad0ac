// Package pawl: letters between two parties, under keys that turn on, on disks that may lose power: see DOC.md.
package pawl

import (
	"pawl/api"
	"pawl/keys"
	"pawl/numbers"
)

// Mix makes a key of a key and a text (P3).
func Mix(key string, text string) (string, api.Errno) {
	if len(key) != api.KeySize {
		return "", api.ErrKey
	}
	if len(text) > api.MaxInput {
		return "", api.ErrLong
	}
	return keys.Mix(key, text), api.OK
}

// Public tells the public number of a secret one (P4).
func Public(x int) (int, api.Errno) {
	if !numbers.IsSecret(x) {
		return 0, api.ErrNumber
	}
	return numbers.Public(x), api.OK
}

// Shared tells what a secret number shares with a public one (P4).
func Shared(x int, y int) (int, api.Errno) {
	if !numbers.IsSecret(x) || !numbers.IsPublic(y) {
		return 0, api.ErrNumber
	}
	return numbers.Shared(x, y), api.OK
}

// Seal seals a text under a key and a head (P5).
func Seal(key string, head string, text string) (string, api.Errno) {
	if len(key) != api.KeySize {
		return "", api.ErrKey
	}
	if len(head) != api.HeadSize {
		return "", api.ErrFrame
	}
	if len(text) > api.MaxText {
		return "", api.ErrLong
	}
	return keys.Seal(key, head, text), api.OK
}

// Unseal opens what is sealed (P5).
func Unseal(key string, head string, sealed string) (string, api.Errno) {
	if len(key) != api.KeySize {
		return "", api.ErrKey
	}
	if len(head) != api.HeadSize || len(sealed) < api.TagSize {
		return "", api.ErrFrame
	}
	if len(sealed) > api.MaxText+api.TagSize {
		return "", api.ErrLong
	}
	text, opens := keys.Unseal(key, head, sealed)
	if !opens {
		return "", api.ErrTag
	}
	return text, api.OK
}

// Apply carries a plan out (P6).
func Apply(disk string, plan string) (string, api.Errno) { return "", api.OK }

// Crash carries a plan out till the power fails (P7).
func Crash(disk string, plan string, n int, keep string) (string, api.Errno) { return "", api.OK }

// Need tells how many sectors a box needs (P8).
func Need(cap int) (int, api.Errno) { return 0, api.OK }

// Create makes a box on a blank disk: a plan (P8).
func Create(disk string, c api.Config, secret string, draw int) (string, api.Errno) {
	return "", api.OK
}

// Look tells what a box is like (P9).
func Look(disk string) (api.View, api.Errno) { return api.View{}, api.OK }

// Recover repairs a disk behind a failure: a plan (P10).
func Recover(disk string) (string, api.Errno) { return "", api.OK }

// Send writes a letter: the letter, a plan (P11).
func Send(disk string, text string) (string, string, api.Errno) { return "", "", api.OK }

// Receive opens a letter: its text, a plan (P12, P13).
func Receive(disk string, letter string, draw int) (string, string, api.Errno) {
	return "", "", api.OK
}
