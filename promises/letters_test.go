package promises

import (
	"encoding/binary"
	"fmt"
	"math/rand"
	"slices"
	"testing"

	"pawl/api"
	"pawl/pawl"
)

// The models below are written from the document's words, with other means than the program's.

func modelHead(step, count, prev, public int) string {
	return string(binary.BigEndian.AppendUint32([]byte{byte(step), byte(count), byte(prev)}, uint32(public)))
}

// modelChain is a chain when so many of its keys are used up.
func modelChain(chain string, used int) string {
	for range used {
		chain = modelMix(chain, "n")
	}
	return chain
}

// modelKey is the key behind so many others of a chain.
func modelKey(chain string, used int) string { return modelMix(modelChain(chain, used), "m") }

func modelTurn(root string, d int) (string, string) {
	four := string(binary.BigEndian.AppendUint32(nil, uint32(d)))
	return modelMix(root, "c"+four), modelMix(root, "r"+four)
}

func modelSend(b box, text string) (string, box, api.Errno) {
	switch {
	case len(text) > 40:
		return "", b, api.ErrLong
	case b.step == 0:
		return "", b, api.ErrMute
	case b.sent == 50 || b.step == 30:
		return "", b, api.ErrSpent
	}
	head := modelHead(b.step, b.sent, b.prev, modelPower(7, b.secret))
	letter := head + modelSeal(modelKey(b.out, 0), head, text)
	b.out, b.sent = modelChain(b.out, 1), b.sent+1
	return letter, b, api.OK
}

// modelOpen is a letter's key and the box behind it, with all keys that come to be kept. With ErrSkip it tells the key too.
func modelOpen(b box, head string, draw int) (string, box, api.Errno) {
	step, count, prev, public := int(head[0]), int(head[1]), int(head[2]), int(binary.BigEndian.Uint32([]byte(head[3:])))
	if step == 0 || step > 29 || count > 49 || prev > 50 || public == 0 || public > 2147483646 {
		return plain, b, api.ErrFrame
	}
	if step > b.step+1 || (step+b.step)%2 == 0 {
		return plain, b, api.ErrStep
	}
	all := slices.Clone(b.kept)
	if step < b.step-1 || step == b.step-1 && count < b.got {
		at := slices.IndexFunc(all, func(k kept) bool { return k.step == step && k.count == count })
		if at < 0 {
			return plain, b, api.ErrGone
		}
		key := all[at].key
		b.kept = slices.Delete(all, at, at+1)
		return key, b, api.OK
	}
	if step == b.step+1 {
		for c := b.got; b.step >= 2 && c < prev; c++ {
			all = append(all, kept{b.step - 1, c, modelKey(b.in, c-b.got)})
		}
		b.in, b.root = modelTurn(b.root, modelPower(public, b.secret))
		b.out, b.root = modelTurn(b.root, modelPower(public, draw))
		b.secret, b.peer, b.step, b.prev, b.sent, b.got = draw, public, step+1, b.sent, 0, 0
	}
	for c := b.got; c < count; c++ {
		all = append(all, kept{step, c, modelKey(b.in, c-b.got)})
	}
	key := modelKey(b.in, count-b.got)
	b.in, b.got, b.kept = modelChain(b.in, count-b.got+1), count+1, all
	ofStep := map[int]int{}
	for _, k := range all {
		ofStep[k.step]++
		if ofStep[k.step] > b.skip {
			return key, b, api.ErrSkip
		}
	}
	return key, b, api.OK
}

func modelReceive(b box, letter string, draw int) (string, box, api.Errno) {
	if draw < 1 || draw > 2147483645 {
		return "", b, api.ErrNumber
	}
	if len(letter) < 15 || len(letter) > 55 {
		return "", b, api.ErrFrame
	}
	head, cover := letter[:7], letter[7:len(letter)-8]
	key, after, e := modelOpen(b, head, draw)
	if e != api.OK {
		return "", b, e
	}
	text := modelCover(key, cover)
	if head+modelSeal(key, head, text) != letter {
		return "", b, api.ErrTag
	}
	for len(after.kept) > after.cap {
		least := 0
		for i, k := range after.kept {
			if 100*k.step+k.count < 100*after.kept[least].step+after.kept[least].count {
				least = i
			}
		}
		after.kept = slices.Delete(slices.Clone(after.kept), least, least+1)
	}
	slices.SortFunc(after.kept, func(k, l kept) int { return 100*(k.step-l.step) + k.count - l.count })
	return text, after, api.OK
}

// letterFor is a letter that the box can open, unless something before the tag speaks against it.
func letterFor(b box, step, count, prev, public int, text string) string {
	head := modelHead(step, count, prev, public)
	key, _, _ := modelOpen(b, head, 1)
	return head + modelSeal(key, head, text)
}

// wantMove fails if a plan does not lead from one good disk to another, or if it leaves a third one when the power fails with any of these kept.
func wantMove(t *testing.T, what string, disk string, plan string, end string, keeps []string) {
	t.Helper()
	records, right := modelRecords(plan, len(disk)/32)
	if !right {
		t.Fatalf("%s: no plan for a disk of %d sectors: %x", what, len(disk)/32, plan)
	}
	for n := range len(records) + 1 {
		for _, keep := range keeps {
			there := modelCrash(disk, records, n, keep)
			if _, repair := modelSort(there); repair != disk && repair != end {
				t.Fatalf("%s: behind %d records of %x there may be %x, whose repair is %x", what, n, plan, there, repair)
			}
			if n == len(records) && there != end {
				t.Fatalf("%s: the plan %x may end at %x, not at %x", what, plan, there, end)
			}
		}
	}
}

// place is where a box stands, and what its plans must hold against.
type place struct {
	live, more int
	sure       bool
}

func (p place) wantPlan(t *testing.T, what string, b box, plan string, after box) {
	t.Helper()
	disk, end := b.disk(p.live, p.more), after.disk(1-p.live, p.more)
	if p.sure {
		wantSure(t, what, disk, plan, end, disk, end)
	} else {
		wantMove(t, what, disk, plan, end, []string{"", full("1")})
	}
}

// wantSent sends as the model does, and tells the letter and the box behind it.
func (p place) wantSent(t *testing.T, what string, b box, text string) (string, box, api.Errno) {
	t.Helper()
	want, after, wantE := modelSend(b, text)
	letter, plan, e := pawl.Send(b.disk(p.live, p.more), text)
	if letter != want || e != wantE {
		t.Fatalf("%s: Send(%x, %x) = %x, %d, want %x, %d", what, b.side(), text, letter, e, want, wantE)
	}
	if e == api.OK {
		p.wantPlan(t, what, b, plan, after)
	} else if plan != "" {
		t.Fatalf("%s: Send(%x, %x) has a plan with the error %d", what, b.side(), text, e)
	}
	return letter, after, e
}

// wantTaken receives as the model does, and tells the box behind that and the error.
func (p place) wantTaken(t *testing.T, what string, b box, letter string, draw int) (box, api.Errno) {
	t.Helper()
	want, after, wantE := modelReceive(b, letter, draw)
	text, plan, e := pawl.Receive(b.disk(p.live, p.more), letter, draw)
	if text != want || e != wantE {
		t.Fatalf("%s: Receive(%x, %x, %d) = %x, %d, want %x, %d", what, b.side(), letter, draw, text, e, want, wantE)
	}
	if e == api.OK {
		p.wantPlan(t, what, b, plan, after)
	} else if plan != "" {
		t.Fatalf("%s: Receive(%x, %x, %d) has a plan with the error %d", what, b.side(), letter, draw, e)
	}
	return after, e
}

// wantAnswer is wantTaken where the test itself says what the error is.
func (p place) wantAnswer(t *testing.T, what string, b box, letter string, draw int, want api.Errno) box {
	t.Helper()
	after, e := p.wantTaken(t, what, b, letter, draw)
	if e != want {
		t.Fatalf("%s: Receive(%x, %x, %d): %d, want %d", what, b.side(), letter, draw, e, want)
	}
	return after
}

// wantRefused is for what is no good disk, or no box's letter at all.
func wantRefused(t *testing.T, what string, disk string, letter string, draw int, want api.Errno) {
	t.Helper()
	text, plan, e := pawl.Receive(disk, letter, draw)
	if text != "" || plan != "" || e != want {
		t.Errorf("%s: Receive(%.200x, %.60x, %d) = %x, %x, %d, want %d", what, disk, letter, draw, text, plan, e, want)
	}
}

// pair are two boxes that fit together.
func pair(skip, most int) (box, box) {
	a := modelCreate(api.Config{Role: 0, Skip: skip, Cap: most, Peer: modelPower(7, 424242)}, plain, 171717)
	b := modelCreate(api.Config{Role: 1, Skip: skip, Cap: most}, plain, 424242)
	return a, b
}

// fourth can take letters of all three kinds, in several ways.
func fourth() box {
	return box{role: 1, step: 6, sent: 7, got: 9, prev: 3, skip: 4, cap: 6, root: "rootroot", out: "sendsend", in: "takerecv", secret: 99, peer: 49,
		kept: []kept{{1, 3, "key-key1"}, {3, 0, "key-key2"}, {3, 49, "key-key3"}, {5, 2, "key-key4"}, {5, 8, "key-key5"}}}
}

// someLetters are some that fourth can open: old, due and turning.
func someLetters() []string {
	b := fourth()
	return []string{
		letterFor(b, 1, 3, 0, 5, "old"), letterFor(b, 3, 49, 50, 5, ""), letterFor(b, 5, 2, 0, 1, someText(40)), letterFor(b, 5, 8, 4, 2147483646, "x"),
		letterFor(b, 5, 9, 4, 5, "due"), letterFor(b, 5, 11, 4, 5, someText(9)),
		letterFor(b, 7, 0, 9, 5, "turning"), letterFor(b, 7, 4, 11, 2147483646, someText(40)), letterFor(b, 7, 1, 0, 7, ""),
	}
}

// someLetter is one that the box may well take: its step and count are such as the box knows, or lie beside them.
func someLetter(from *rand.Rand, b box) string {
	near := func(n, least, most int) int { return max(least, min(most, n+from.Intn(4)-1)) }
	step, count, prev := b.step-1+2*from.Intn(2), from.Intn(50), from.Intn(51)
	switch from.Intn(4) {
	case 0:
		step, count = near(step, 1, 29), near(b.got, 0, 49)
	case 1, 2:
		count, prev = near(b.got, 0, 49), near(b.got, 0, 50)
		if step == b.step+1 {
			count = from.Intn(b.skip + 2)
		}
	case 3:
		if len(b.kept) > 0 {
			k := b.kept[from.Intn(len(b.kept))]
			step, count = k.step, near(k.count, 0, 49)
		}
	}
	return letterFor(b, max(1, min(29, step)), count, prev, 1+from.Intn(2147483646), someText(from.Intn(41)))
}

func name(letter string) string {
	return fmt.Sprintf("the letter of step %d, count %d, prev %d", letter[0], letter[1], letter[2])
}
