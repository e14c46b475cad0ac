// Package boxes: what a party has, and how it stands on the live side of a disk.
package boxes

import (
	"pawl/api"
	"pawl/keys"
	"pawl/numbers"
	"pawl/quad"
	"pawl/texts"
)

// Box is what a party has.
type Box struct {
	Role, Step, Sent, Got, Prev, Skip, Cap int
	Root, Out, In                          string
	Secret, Peer                           int
	Kept                                   []Kept
}

// Kept is a key that is kept for a letter still to come.
type Kept struct {
	Step, Count int
	Key         string
}

// NoKey stands where a box has no key yet.
const NoKey = "\x00\x00\x00\x00\x00\x00\x00\x00"

// Where the parts of a live side begin.
const (
	atRoot   = 8
	atOut    = 16
	atIn     = 24
	atSecret = 32
	atPeer   = 36
	atKept   = 40
	keptSize = 2 + api.KeySize
)

// SideSize tells how many sectors a side has: as many as hold the most keys that may be kept.
func SideSize(most int) int {
	return (atKept + keptSize*most + api.SectorSize - 1) / api.SectorSize
}

// Need tells how many sectors a box needs.
func Need(most int) int { return 1 + 2*SideSize(most) }

// New makes the box that a party begins with.
func New(c api.Config, secret string, draw int) Box {
	b := Box{Role: c.Role, Skip: c.Skip, Cap: c.Cap, Root: secret, Out: NoKey, In: NoKey, Secret: draw}
	if c.Role == 1 {
		return b
	}
	out, root := keys.Turn(secret, numbers.Shared(draw, c.Peer))
	b.Step = 1
	b.Peer = c.Peer
	b.Out = out
	b.Root = root
	return b
}

// Side tells the bytes of a live side.
func Side(b Box) string {
	side := string([]byte{byte(b.Role), byte(b.Step), byte(b.Sent), byte(b.Got), byte(b.Prev), byte(b.Skip), byte(b.Cap), byte(len(b.Kept))})
	side += b.Root + b.Out + b.In
	side += quad.Text(uint32(b.Secret)) + quad.Text(uint32(b.Peer))
	for i := 0; i < len(b.Kept); i++ {
		side += string([]byte{byte(b.Kept[i].Step), byte(b.Kept[i].Count)}) + b.Kept[i].Key
	}
	return side + texts.Noughts(SideSize(b.Cap)*api.SectorSize-len(side))
}

// Read tells the box of a live side, and whether it is one with room for so many keys.
func Read(side string, most int) (Box, bool) {
	count := texts.Byte(side, 7)
	if len(side) != SideSize(most)*api.SectorSize || count > most {
		return Box{}, false
	}
	b := Box{
		Role:   texts.Byte(side, 0),
		Step:   texts.Byte(side, 1),
		Sent:   texts.Byte(side, 2),
		Got:    texts.Byte(side, 3),
		Prev:   texts.Byte(side, 4),
		Skip:   texts.Byte(side, 5),
		Cap:    texts.Byte(side, 6),
		Root:   texts.Part(side, atRoot, api.KeySize),
		Out:    texts.Part(side, atOut, api.KeySize),
		In:     texts.Part(side, atIn, api.KeySize),
		Secret: int(quad.Number(side, atSecret)),
		Peer:   int(quad.Number(side, atPeer)),
		Kept:   readKept(side, count),
	}
	if b.Cap != most || !isRight(b) {
		return Box{}, false
	}
	// Behind the keys only noughts are right.
	return b, Side(b) == side
}

func readKept(side string, count int) []Kept {
	kept := []Kept{}
	for i := 0; i < count; i++ {
		at := atKept + i*keptSize
		kept = append(kept, Kept{Step: texts.Byte(side, at), Count: texts.Byte(side, at+1), Key: texts.Part(side, at+2, api.KeySize)})
	}
	return kept
}
