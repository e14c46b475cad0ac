package promises

import (
	"math/rand"
	"testing"

	"pawl/api"
	"pawl/pawl"
)

// Each question is asked once by itself, then again and again among all the others.
func TestP2TheSameInAnyOrder(t *testing.T) {
	from := rand.New(rand.NewSource(2))
	asked := make([]inputs, 40)
	for i := range asked {
		asked[i] = wildInputs(from)
	}
	first := make([][]answer, len(asked))
	for i, in := range asked {
		for _, c := range calls {
			first[i] = append(first[i], c.ask(in))
		}
	}
	for range 20000 {
		i, j := from.Intn(len(asked)), from.Intn(len(calls))
		if got := calls[j].ask(asked[i]); got != first[i][j] {
			t.Fatalf("P2: %s answers %+v, and before that %+v", calls[j].name, got, first[i][j])
		}
	}
}

// What was sealed last under a key opens no better than what was sealed before, and is sealed alike again.
func TestP2SealingForgets(t *testing.T) {
	one, e := pawl.Seal(plain, head, "one")
	wantText(t, "P2: Seal", one, e, modelSeal(plain, head, "one"), 0)
	for range 3 {
		two, e := pawl.Seal(plain, head, "two")
		wantText(t, "P2: Seal of another text", two, e, modelSeal(plain, head, "two"), 0)
		again, e := pawl.Seal(plain, head, "one")
		wantText(t, "P2: Seal once more", again, e, one, 0)
		text, e := pawl.Unseal(plain, head, two)
		wantText(t, "P2: Unseal", text, e, "two", 0)
		text, e = pawl.Unseal(plain, head, one)
		wantText(t, "P2: Unseal of what was sealed before", text, e, "one", 0)
	}
}

// A disk that was looked at, recovered or created on is not remembered when another one comes.
func TestP2DisksAreNotRemembered(t *testing.T) {
	for range 3 {
		wantSort(t, "P2: Look at a torn disk", poke(second(), 159, "\x01"), api.ErrTorn)
		wantView(t, "P2: Look at a good disk", second(), api.View{Role: 1, Skip: 1, Public: 49}, api.OK)
		plan, e := pawl.Recover(second())
		there, f := pawl.Apply(second(), plan)
		if e != api.OK || f != api.OK || there != second() {
			t.Errorf("P2: Recover of a good disk, carried out: %x, %d, %d", there, e, f)
		}
		wantCreated(t, 5, api.Config{Role: 0, Peer: 7}, plain, 3)
		wantCreated(t, 5, api.Config{Role: 1}, ones, 4)
		wantView(t, "P2: Look at another good disk", third().disk(1, 0), third().view(), api.OK)
	}
}

// A letter that was written or taken is not remembered either: as long as the disk is the same, the answer is.
func TestP2LettersAreNotRemembered(t *testing.T) {
	b := fourth()
	disk := b.disk(0, 0)
	letter, plan, e := pawl.Send(disk, "one")
	if e != api.OK {
		t.Fatalf("P2: Send: %d", e)
	}
	for range 3 {
		place{}.wantSent(t, "P2: Send of another text", b, "two")
		for _, l := range someLetters() {
			place{}.wantAnswer(t, "P2: Receive of the same letters again", b, l, 7, api.OK)
		}
		place{live: 1}.wantSent(t, "P2: Send of another box", third(), "three")
		l, p, e := pawl.Send(disk, "one")
		wantText(t, "P2: Send once more", l+p, e, letter+plan, api.OK)
	}
}
