package promises

import (
	"fmt"
	"math/rand"
	"strings"
	"testing"

	"pawl/api"
	"pawl/pawl"
)

func TestP12Example8(t *testing.T) {
	b := box{role: 1, skip: 1, root: plain, out: noughts, in: noughts, secret: 2}
	for _, c := range []struct {
		step, count int
		want        api.Errno
	}{{2, 0, api.ErrStep}, {3, 0, api.ErrStep}, {1, 2, api.ErrSkip}, {30, 0, api.ErrFrame}, {1, 0, api.OK}, {1, 1, api.OK}} {
		place{}.wantAnswer(t, "P12: example 8", b, letterFor(b, c.step, c.count, 0, 5, "text"), 1, c.want)
	}
}

func TestP12SomeBoxesAndLetters(t *testing.T) {
	from, seen := rand.New(rand.NewSource(1201)), map[api.Errno]int{}
	for round := range 8000 {
		b := someBox(from)
		p := place{from.Intn(2), from.Intn(41 - len(b.disk(0, 0))/32), round < 300}
		_, e := p.wantTaken(t, "P12: some box and letter", b, someLetter(from, b), 1+from.Intn(2147483645))
		seen[e]++
	}
	for _, e := range []api.Errno{api.OK, api.ErrStep, api.ErrGone, api.ErrSkip} {
		if seen[e] < 200 {
			t.Errorf("P12: only %d boxes and letters answer %d", seen[e], e)
		}
	}
}

// Nothing but its length and its head make a letter one.
func TestP12NoLetters(t *testing.T) {
	b := fourth()
	disk, due := b.disk(0, 0), letterFor(b, 5, 9, 4, 5, someText(40))
	for size := range 300 {
		letter := (due + zeros(300))[:size]
		want := api.ErrFrame
		if size == 55 {
			continue
		}
		if size >= 15 && size < 55 {
			want = api.ErrTag
		}
		wantRefused(t, fmt.Sprintf("P12: %d bytes", size), disk, letter, 1, want)
	}
	for length := range 42 {
		want := api.OK
		if length == 41 {
			want = api.ErrFrame
		}
		place{}.wantAnswer(t, "P12: a letter of every length", b, letterFor(b, 5, 9, 4, 5, someText(length)), 1, want)
	}
	for _, public := range neitherNumbers {
		if public < 0 || public >= 1<<32 {
			continue
		}
		for _, step := range []int{1, 5, 7, 8} {
			place{}.wantAnswer(t, "P12: no public number", b, letterFor(b, step, 9, 0, public, "x"), 1, api.ErrFrame)
		}
	}
	for _, public := range publicNumbers {
		place{}.wantAnswer(t, "P12: a public number", b, letterFor(b, 5, 9, 0, public, "x"), 1, api.OK)
		place{}.wantAnswer(t, "P12: a public number", b, letterFor(b, 7, 1, 9, public, "x"), 1, api.OK)
	}
	for prev := range 256 {
		want := api.OK
		if prev > 50 {
			want = api.ErrFrame
		}
		place{}.wantAnswer(t, "P12: every prev", b, letterFor(b, 5, 9, prev, 5, "x"), 1, want)
		place{}.wantAnswer(t, "P12: every prev", b, letterFor(b, 1, 3, prev, 5, "x"), 1, want)
		b, _ := pair(0, 0)
		place{}.wantAnswer(t, "P12: every prev, before anything has come", b, letterFor(b, 2, 0, prev, 5, "x"), 1, want)
		_, b = pair(0, 0)
		place{}.wantAnswer(t, "P12: every prev, before anything has come", b, letterFor(b, 1, 0, prev, 5, "x"), 1, want)
	}
}

// bare is a box of a step with nothing kept.
func bare(step, got, skip, most int) box {
	b := box{role: 1 - step%2, step: step, skip: skip, cap: most, root: plain, out: "sendsend", in: "takerecv", secret: 12, peer: 49, got: got}
	if step < 2 {
		b.in, b.got = noughts, 0
	}
	if step == 0 {
		b.out, b.peer = noughts, 0
	}
	return b
}

func TestP12EveryStep(t *testing.T) {
	for step := range 31 {
		for letters := range 256 {
			b := bare(step, 3, 12, 30)
			want := api.OK
			switch {
			case letters == 0 || letters > 29:
				want = api.ErrFrame
			case letters > step+1 || letters%2 == step%2:
				want = api.ErrStep
			case letters < step-1:
				want = api.ErrGone
			}
			for _, count := range []int{3, 5} {
				place{live: count / 5}.wantAnswer(t, "P12: every step", b, letterFor(b, letters, count, 3, 5, "x"), 7, want)
			}
			// What is sealed is asked for last.
			if want == api.OK {
				want = api.ErrTag
			}
			place{}.wantAnswer(t, "P12: every step, spoilt", b, modelHead(letters, 3, 3, 5)+"12345678", 7, want)
		}
	}
}

func TestP12EveryCount(t *testing.T) {
	for _, got := range []int{0, 1, 9, 37, 38, 39, 48, 49, 50} {
		b := bare(6, got, 12, 30)
		for count := range 256 {
			want := api.OK
			switch {
			case count > 49:
				want = api.ErrFrame
			case count < got:
				want = api.ErrGone
			case count > got+12:
				want = api.ErrSkip
			}
			place{}.wantAnswer(t, "P12: every count, due", b, letterFor(b, 5, count, 0, 5, "x"), 7, want)
			if count <= 49 {
				want = api.ErrGone
			}
			place{}.wantAnswer(t, "P12: every count, old", b, letterFor(b, 3, count, 0, 5, "x"), 7, want)
			switch {
			case count <= 12:
				want = api.OK
			case count <= 49:
				want = api.ErrSkip
			}
			place{}.wantAnswer(t, "P12: every count, turning", b, letterFor(b, 7, count, got, 5, "x"), 7, want)
		}
	}
}

// Just as many keys of one step as skip allows, those among them that were kept before.
func TestP12EverySkip(t *testing.T) {
	for skip := range 13 {
		for held := range skip + 1 {
			for _, got := range []int{held, 20, 49, 50} {
				b := bare(6, got, skip, 30)
				for i := range held {
					b.kept = append(b.kept, kept{5, i, someText(i + 8)[:8]})
				}
				free := skip - held
				for _, more := range []int{0, free - 1, free, free + 1, 12, 13, 49} {
					want := api.OK
					if more > free {
						want = api.ErrSkip
					}
					if count := got + more; more >= 0 && count < 50 {
						place{}.wantAnswer(t, "P12: every skip, due", b, letterFor(b, 5, count, 0, 5, "x"), 7, want)
					}
					if prev := got + more; more >= 0 && prev <= 50 {
						place{}.wantAnswer(t, "P12: every skip, turning, by prev", b, letterFor(b, 7, skip, prev, 5, "x"), 7, want)
					}
				}
				for _, count := range []int{0, max(0, skip-1), skip, skip + 1, 49} {
					want := api.OK
					if count > skip {
						want = api.ErrSkip
					}
					place{}.wantAnswer(t, "P12: every skip, turning, by count", b, letterFor(b, 7, count, 0, 5, "x"), 7, want)
					place{}.wantAnswer(t, "P12: every skip, turning, by count", b, letterFor(b, 7, count, got, 5, "x"), 7, want)
				}
				// ErrSkip comes before ErrTag.
				place{}.wantAnswer(t, "P12: a spoilt letter", b, modelHead(7, skip+1, 0, 5)+"12345678", 7, api.ErrSkip)
			}
		}
	}
}

// Keys of other steps do not count against skip.
func TestP12SkipOfOneStepAlone(t *testing.T) {
	b := bare(6, 9, 2, 10)
	b.kept = []kept{{1, 0, plain}, {1, 1, plain}, {3, 0, plain}, {3, 49, plain}, {5, 2, plain}}
	place{}.wantAnswer(t, "P12: skip of one step", b, letterFor(b, 5, 10, 0, 5, "x"), 7, api.OK)
	place{}.wantAnswer(t, "P12: skip of one step", b, letterFor(b, 5, 11, 0, 5, "x"), 7, api.ErrSkip)
	place{}.wantAnswer(t, "P12: skip of one step", b, letterFor(b, 7, 2, 10, 5, "x"), 7, api.OK)
	place{}.wantAnswer(t, "P12: skip of one step", b, letterFor(b, 7, 2, 11, 5, "x"), 7, api.ErrSkip)
	place{}.wantAnswer(t, "P12: skip of one step", b, letterFor(b, 7, 3, 10, 5, "x"), 7, api.ErrSkip)
}

// In the first steps there is no chain that prev could go on.
func TestP12PrevBeforeAnythingHasCome(t *testing.T) {
	for step := range 5 {
		for _, got := range []int{0, 3} {
			for _, prev := range []int{0, 2, 3, 4, 50} {
				b := bare(step, got, 3, 30)
				want := api.OK
				if step >= 2 && prev > b.got+3 {
					want = api.ErrSkip
				}
				after := place{}.wantAnswer(t, "P12: the first steps", b, letterFor(b, step+1, 1, prev, 5, "x"), 7, want)
				many := 1
				if step >= 2 {
					many += max(0, prev-b.got)
				}
				if want == api.OK && len(after.kept) != many {
					t.Errorf("P12: at step %d, got %d, prev %d: kept %x", step, b.got, prev, after.view().Kept)
				}
			}
		}
	}
}

func TestP12SingleBytesTurned(t *testing.T) {
	b := fourth()
	for _, letter := range someLetters() {
		for at := range len(letter) {
			for c := range 256 {
				if byte(c) == letter[at] {
					continue
				}
				other := poke(letter, at, string([]byte{byte(c)}))
				want := api.ErrTag
				if at < 7 {
					_, _, want = modelReceive(b, other, 7)
				}
				wantRefused(t, fmt.Sprintf("P12: byte %d turned to %d", at, c), b.disk(1, 0), other, 7, want)
			}
			if t.Failed() {
				return
			}
		}
		place{live: 1, sure: true}.wantAnswer(t, "P12: a letter behind spoilt ones", b, letter, 7, api.OK)
	}
}

func TestP12Draws(t *testing.T) {
	b := fourth()
	disk := b.disk(0, 0)
	for _, draw := range append([]int{2147483646}, neitherNumbers...) {
		for _, letter := range append(someLetters(), "", "x", someText(56), modelHead(8, 0, 0, 1)+plain, modelHead(3, 1, 0, 1)+plain, modelHead(7, 49, 0, 1)+plain, modelHead(5, 9, 0, 1)+plain) {
			wantRefused(t, "P12: a wrong draw", disk, letter, draw, api.ErrNumber)
		}
	}
	for _, draw := range secretNumbers {
		for _, letter := range someLetters() {
			after := place{}.wantAnswer(t, "P12: a right draw", b, letter, draw, api.OK)
			want := 99
			if letter[0] == 7 {
				want = draw
			}
			if after.secret != want {
				t.Fatalf("P12: behind %s the secret is %d, want %d", name(letter), after.secret, want)
			}
		}
	}
}

func TestP12DisksErrors(t *testing.T) {
	for _, letter := range append(someLetters()[4:7], "", "x", someText(56)) {
		for _, draw := range []int{0, 1, 2147483646} {
			for _, disk := range noDisks {
				wantRefused(t, "P12: no disk", disk, letter, draw, api.ErrDisk)
			}
			for _, disk := range someDisks() {
				if want, _ := modelSort(disk); want != api.OK {
					wantRefused(t, "P12: some disk", disk, letter, draw, want)
				}
			}
			for _, c := range sides {
				b := third()
				c.change(&b)
				if c.want != api.OK {
					wantRefused(t, "P12: "+c.what, b.disk(0, 0), letter, draw, c.want)
				} else if draw == 1 {
					place{}.wantTaken(t, "P12: "+c.what, b, letter, draw)
				}
			}
		}
	}
	for _, disk := range []string{second(), third().disk(1, 1), fourth().disk(0, 0)} {
		for at := range len(disk) {
			other := poke(disk, at, string([]byte{disk[at] ^ 1}))
			if want, _ := modelSort(other); want != api.OK {
				wantRefused(t, fmt.Sprintf("P12: byte %d of the disk turned", at), other, someLetters()[0], 1, want)
			}
		}
	}
}

// Each error where all that are named behind it apply too, as far as they can.
func TestP12TheFirstErrorNamed(t *testing.T) {
	b := fourth()
	disk := b.disk(0, 0)
	wantRefused(t, "P12: ErrNumber and ErrFrame", disk, modelHead(30, 50, 51, 0)+plain, 0, api.ErrNumber)
	wantRefused(t, "P12: ErrFrame, of a step that cannot be", disk, modelHead(30, 9, 0, 5)+plain, 1, api.ErrFrame)
	wantRefused(t, "P12: ErrFrame, of a step that cannot be", disk, modelHead(6, 50, 0, 5)+plain, 1, api.ErrFrame)
	wantRefused(t, "P12: ErrFrame, of a key that is gone", disk, modelHead(3, 1, 51, 5)+plain, 1, api.ErrFrame)
	wantRefused(t, "P12: ErrFrame, of too many keys", disk, modelHead(7, 49, 0, 0)+plain, 1, api.ErrFrame)
	wantRefused(t, "P12: ErrFrame, of too short a letter", disk, modelHead(8, 49, 0, 1)+plain[1:], 1, api.ErrFrame)
	wantRefused(t, "P12: ErrFrame, of too long a letter", disk, modelHead(8, 49, 0, 1)+someText(49), 1, api.ErrFrame)
	wantRefused(t, "P12: ErrStep, of too many keys", disk, modelHead(9, 49, 50, 5)+plain, 1, api.ErrStep)
	wantRefused(t, "P12: ErrStep, of no key kept", disk, modelHead(4, 1, 0, 5)+plain, 1, api.ErrStep)
	wantRefused(t, "P12: ErrGone and ErrTag", disk, modelHead(5, 1, 50, 5)+plain, 1, api.ErrGone)
	wantRefused(t, "P12: ErrSkip and ErrTag", disk, modelHead(7, 0, 50, 5)+plain, 1, api.ErrSkip)
	wantRefused(t, "P12: ErrSkip and ErrTag", disk, modelHead(5, 49, 0, 5)+plain, 1, api.ErrSkip)
	wantRefused(t, "P12: ErrTag", disk, modelHead(5, 8, 0, 5)+plain, 1, api.ErrTag)
}

func TestP12EveryCapIsSafe(t *testing.T) {
	for most := range 31 {
		for live := range 2 {
			for _, keys := range []int{0, most} {
				b := capped(most, keys)
				b.got = 40
				b.kept = b.kept[:min(len(b.kept), 24)]
				for _, letter := range []string{letterFor(b, 28, 40, 0, 5, "due"), letterFor(b, 28, 49, 0, 5, "due, and nine passed over"), letterFor(b, 24, 38, 0, 5, "old, if it is kept")} {
					for _, more := range []int{0, 40 - len(b.disk(0, 0))/32} {
						place{live, more, true}.wantTaken(t, fmt.Sprintf("P12: cap %d, %d keys", most, keys), b, letter, 3)
					}
				}
			}
			b := bare(6, 9, 12, most)
			place{live, live, true}.wantAnswer(t, fmt.Sprintf("P12: cap %d, turning", most), b, letterFor(b, 7, 12, 21, 5, "turning"), 3, api.OK)
		}
	}
}

func TestP12EveryWayOfKeeping(t *testing.T) {
	for live := range 2 {
		b := capped(30, 24)
		b.got = 40
		disk, letter := b.disk(live, 1), letterFor(b, 28, 46, 0, 5, "text")
		_, plan, _ := pawl.Receive(disk, letter, 3)
		_, after, _ := modelReceive(b, letter, 3)
		wantMove(t, "P12: every way of keeping", disk, plan, after.disk(1-live, 1), everyKeep(12))
	}
}

func TestP12LongLetters(t *testing.T) {
	for _, size := range []int{56, 57, 256 + 15, 256 + 55, 65536, 65536 + 15, 65536 + 55} {
		wantRefused(t, "P12: a long letter", fourth().disk(0, 0), strings.Repeat("\x05", size), 1, api.ErrFrame)
	}
}
