package promises

import (
	"fmt"
	"strings"
	"testing"

	"pawl/api"
	"pawl/pawl"
)

var someHeads = []string{head, "\x00\x00\x00\x00\x00\x00\x00", "\xff\xff\xff\xff\xff\xff\xff", "\x01\x31\x32\x7f\xff\xff\xfe"}

var wrongHeads = []string{"", "a", "abcdef", "abcdefgh", strings.Repeat("h", 256+7), strings.Repeat("h", 65536+7)}

func TestP5SealKnown(t *testing.T) {
	high := make([]byte, 40)
	for i := range high {
		high[i] = byte(216 + i)
	}
	for _, c := range []struct{ key, head, text, want string }{
		{plain, head, "", "3687488486c62021"},
		{plain, head, "x", "bca64965855481ae9a"},
		{plain, head, "12345678", "f59418a5433d222393a8022c4b85b348"},
		{plain, head, "123456789", "f59418a5433d222340e0223c31b261eac5"},
		{ones, someHeads[2], strings.Repeat("\x00", 40), "376adaaa83d4e13e7884297c91fe6d401edd4fcb130b7742bc36dc77165878c2f8f5ff0c5a534be89024cec3c691042f"},
		{noughts, someHeads[1], string(high), "ea0beee68cc7b9fa749c3b8da33c689f34b039e7916730914b33ca40038c3bbdaf84f2bbf470ee022e7d021b043398ac"},
		{noughts, someHeads[1], "", "998eb83478517e20"},
	} {
		sealed := unhex(t, c.want)
		s, e := pawl.Seal(c.key, c.head, c.text)
		wantText(t, fmt.Sprintf("P5: Seal(%x, %x, %x)", c.key, c.head, c.text), s, e, sealed, api.OK)
		u, e := pawl.Unseal(c.key, c.head, sealed)
		wantText(t, fmt.Sprintf("P5: Unseal(%x, %x, %x)", c.key, c.head, sealed), u, e, c.text, api.OK)
	}
}

func TestP5EveryLength(t *testing.T) {
	for _, key := range someKeys {
		for _, head := range someHeads {
			for length := 0; length <= 40; length++ {
				for _, text := range []string{someText(length), strings.Repeat("\x00", length), strings.Repeat("\xff", length)} {
					s, e := pawl.Seal(key, head, text)
					wantText(t, fmt.Sprintf("P5: Seal(%x, %x, %x)", key, head, text), s, e, modelSeal(key, head, text), api.OK)
					u, e := pawl.Unseal(key, head, s)
					wantText(t, fmt.Sprintf("P5: Unseal(%x, %x, %x)", key, head, s), u, e, text, api.OK)
				}
			}
		}
	}
}

// Whatever the cover, with its tag it is what Seal makes of some text.
func TestP5UnsealOfAnyCover(t *testing.T) {
	for length := 0; length <= 40; length++ {
		cover := someText(length)
		sealed := cover + modelMix(plain, "t"+head+cover)
		u, e := pawl.Unseal(plain, head, sealed)
		wantText(t, fmt.Sprintf("P5: Unseal of the cover %x", cover), u, e, modelCover(plain, cover), api.OK)
		s, e := pawl.Seal(plain, head, u)
		wantText(t, fmt.Sprintf("P5: Seal of %x", u), s, e, sealed, api.OK)
	}
}

func TestP5ErrTagWithOneBitTurned(t *testing.T) {
	for _, length := range []int{0, 1, 7, 8, 9, 31, 39, 40} {
		sealed := modelSeal(plain, head, someText(length))
		for bit := range len(sealed) * 8 {
			u, e := pawl.Unseal(plain, head, flip(sealed, bit))
			wantText(t, fmt.Sprintf("P5: Unseal of %x with bit %d turned", sealed, bit), u, e, "", api.ErrTag)
		}
		for bit := range len(plain) * 8 {
			u, e := pawl.Unseal(flip(plain, bit), head, sealed)
			wantText(t, fmt.Sprintf("P5: Unseal of %x with bit %d of the key turned", sealed, bit), u, e, "", api.ErrTag)
		}
		for bit := range len(head) * 8 {
			u, e := pawl.Unseal(plain, flip(head, bit), sealed)
			wantText(t, fmt.Sprintf("P5: Unseal of %x with bit %d of the head turned", sealed, bit), u, e, "", api.ErrTag)
		}
	}
}

func TestP5ErrTagOfOtherLengths(t *testing.T) {
	for length := 0; length <= 40; length++ {
		sealed := modelSeal(plain, head, someText(length))
		for _, other := range []string{sealed[1:], sealed[:len(sealed)-1], sealed + "\x00", "\x00" + sealed} {
			if len(other) < 8 || len(other) > 48 {
				continue
			}
			u, e := pawl.Unseal(plain, head, other)
			wantText(t, fmt.Sprintf("P5: Unseal of %x", other), u, e, "", api.ErrTag)
		}
	}
	for length := 8; length <= 48; length++ {
		for _, sealed := range []string{strings.Repeat("\x00", length), strings.Repeat("\xff", length), someText(length)} {
			u, e := pawl.Unseal(plain, head, sealed)
			wantText(t, fmt.Sprintf("P5: Unseal of %x", sealed), u, e, "", api.ErrTag)
		}
	}
}

func TestP5SealErrors(t *testing.T) {
	for _, key := range wrongKeys {
		for _, head := range append([]string{head}, wrongHeads...) {
			for _, length := range []int{0, 40, 41} {
				s, e := pawl.Seal(key, head, someText(length))
				wantText(t, fmt.Sprintf("P5: Seal with a key of %d, a head of %d, a text of %d bytes", len(key), len(head), length), s, e, "", api.ErrKey)
			}
		}
	}
	for _, head := range wrongHeads {
		for _, length := range []int{0, 40, 41, 65536} {
			s, e := pawl.Seal(plain, head, someText(length))
			wantText(t, fmt.Sprintf("P5: Seal with a head of %d, a text of %d bytes", len(head), length), s, e, "", api.ErrFrame)
		}
	}
	for _, length := range []int{41, 42, 48, 49, 200, 201, 255, 256, 296, 65536, 65576} {
		s, e := pawl.Seal(plain, head, someText(length))
		wantText(t, fmt.Sprintf("P5: Seal of a text of %d bytes", length), s, e, "", api.ErrLong)
	}
}

func TestP5UnsealErrors(t *testing.T) {
	for _, key := range wrongKeys {
		for _, head := range append([]string{head}, wrongHeads...) {
			for _, length := range []int{0, 7, 8, 48, 49} {
				u, e := pawl.Unseal(key, head, someText(length))
				wantText(t, fmt.Sprintf("P5: Unseal with a key of %d, a head of %d, %d bytes sealed", len(key), len(head), length), u, e, "", api.ErrKey)
			}
		}
	}
	for _, head := range wrongHeads {
		for _, length := range []int{0, 7, 8, 48, 49, 65536} {
			u, e := pawl.Unseal(plain, head, someText(length))
			wantText(t, fmt.Sprintf("P5: Unseal with a head of %d, %d bytes sealed", len(head), length), u, e, "", api.ErrFrame)
		}
	}
	for length := 0; length < 8; length++ {
		u, e := pawl.Unseal(plain, head, someText(length))
		wantText(t, fmt.Sprintf("P5: Unseal of %d bytes", length), u, e, "", api.ErrFrame)
	}
	for _, length := range []int{49, 50, 200, 201, 255, 256, 264, 304, 65536, 65584} {
		u, e := pawl.Unseal(plain, head, someText(length))
		wantText(t, fmt.Sprintf("P5: Unseal of %d bytes", length), u, e, "", api.ErrLong)
	}
	// A right tag does not make up for too long a text.
	long := modelSeal(plain, head, someText(41))
	u, e := pawl.Unseal(plain, head, long)
	wantText(t, "P5: Unseal of 41 bytes with their tag", u, e, "", api.ErrLong)
}
