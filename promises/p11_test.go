package promises

import (
	"fmt"
	"math/rand"
	"strings"
	"testing"

	"pawl/api"
	"pawl/pawl"
)

func TestP11Known(t *testing.T) {
	public, _ := pawl.Public(424242)
	plan, e := pawl.Create(zeros(224), api.Config{Role: 0, Skip: 3, Cap: 4, Peer: public}, plain, 171717)
	disk, f := pawl.Apply(zeros(224), plan)
	if e != api.OK || f != api.OK {
		t.Fatalf("P8: Create, Apply: %d, %d", e, f)
	}
	for i, c := range []struct{ text, want string }{{"x", "0100007dccac7f7e5f312442e858fd9f"}, {"y", "0101007dccac7f4d58cf761839242432"}, {"z", "0102007dccac7f86498a082d432fd5f1"}} {
		letter, plan, e := pawl.Send(disk, c.text)
		wantText(t, fmt.Sprintf("P11: Send(.., %q)", c.text), letter, e, unhex(t, c.want), api.OK)
		disk, e = pawl.Apply(disk, plan)
		if live := disk[5]; e != api.OK || int(live) != (i+1)%2 {
			t.Fatalf("P11: behind %d letters side %d is live (%d)", i+1, live, e)
		}
	}
	side := unhex(t, "0001030000030400d0eeda33717027049dea045590f77ff2000000000000000000029ec57f810401")
	wantText(t, "P11: the disk behind three letters", disk, api.OK, "PAWL\x04\x01"+zeros(26)+zeros(96)+side+zeros(56), api.OK)
}

func TestP11Example8(t *testing.T) {
	letter, plan, e := pawl.Send(second(), "x")
	wantText(t, "P11: example 8", letter+plan, e, "", api.ErrMute)
}

func TestP11EveryLength(t *testing.T) {
	for length := range 43 {
		for _, text := range []string{someText(length), zeros(length), strings.Repeat("\xff", length)} {
			for _, b := range []box{third(), fourth()} {
				for live := range 2 {
					place{live: live, more: live}.wantSent(t, "P11: texts of every length", b, text)
				}
			}
		}
	}
}

// At every step with every number of letters sent, and where several errors apply.
func TestP11EveryStepAndSent(t *testing.T) {
	for step := range 31 {
		for sent := range 51 {
			b := box{role: 1 - step%2, step: step, sent: sent, skip: 1, root: plain, out: ones, in: ones, secret: 12, peer: 49}
			if step == 0 {
				b.sent, b.out, b.peer = 0, noughts, 0
			}
			if step < 2 {
				b.in = noughts
			}
			if step > 2 {
				b.prev = 50 - sent
			}
			for _, length := range []int{0, 40, 41} {
				_, _, e := place{live: sent % 2}.wantSent(t, "P11: every step and sent", b, someText(length))
				want := api.OK
				switch {
				case length == 41:
					want = api.ErrLong
				case step == 0:
					want = api.ErrMute
				case sent == 50 || step == 30:
					want = api.ErrSpent
				}
				if e != want {
					t.Fatalf("P11: Send at step %d, %d sent, %d bytes: %d, want %d", step, sent, length, e, want)
				}
			}
		}
	}
}

func TestP11FiftyLetters(t *testing.T) {
	a, _ := pair(3, 4)
	p := place{more: 2}
	seen := map[string]bool{}
	for i := range 50 {
		letter, after, _ := p.wantSent(t, "P11: fifty letters", a, "always the same")
		if int(letter[0]) != 1 || int(letter[1]) != i || seen[letter[7:]] {
			t.Fatalf("P11: letter %d is %x", i, letter)
		}
		seen[letter[7:]] = true
		a, p.live = after, 1-p.live
	}
	for _, text := range []string{"", "x", someText(40)} {
		if _, _, e := p.wantSent(t, "P11: the letter behind fifty", a, text); e != api.ErrSpent {
			t.Errorf("P11: the letter behind fifty: %d", e)
		}
	}
}

func TestP11SecretsAndKeys(t *testing.T) {
	for _, secret := range secretNumbers {
		for i, key := range someKeys {
			b := third()
			b.secret, b.out, b.root = secret, key, someKeys[(i+1)%len(someKeys)]
			place{live: i % 2}.wantSent(t, "P11: secrets and keys", b, "text")
		}
	}
}

// capped is a box of a cap, with as many keys as may be or with none.
func capped(most int, keys int) box {
	b := fullBox()
	b.role, b.step, b.sent, b.cap = 0, 29, 49, most
	b.kept = nil
	for i := range keys {
		b.kept = append(b.kept, kept{24 + 2*(i/12), 38 + i%12, someText(8 + i)[:8]})
	}
	return b
}

func TestP11EveryCapIsSafe(t *testing.T) {
	for most := range 31 {
		for live := range 2 {
			for _, keys := range []int{0, most} {
				b := capped(most, keys)
				for _, more := range []int{0, 1, 40 - len(b.disk(0, 0))/32} {
					place{live, more, true}.wantSent(t, fmt.Sprintf("P11: cap %d, %d keys", most, keys), b, "text")
				}
			}
		}
	}
}

// The greatest boxes have eleven sectors a side: no more writes are loose at a time, if sides and sector 0 are kept apart.
func TestP11EveryWayOfKeeping(t *testing.T) {
	for live := range 2 {
		b := capped(30, 30)
		disk := b.disk(live, 1)
		_, plan, _ := pawl.Send(disk, "text")
		_, after, _ := modelSend(b, "text")
		wantMove(t, "P11: every way of keeping", disk, plan, after.disk(1-live, 1), everyKeep(12))
	}
}

func TestP11SomeBoxes(t *testing.T) {
	from := rand.New(rand.NewSource(11))
	seen := map[api.Errno]int{}
	for round := range 4000 {
		b := someBox(from)
		p := place{from.Intn(2), from.Intn(41 - len(b.disk(0, 0))/32), round < 100}
		_, _, e := p.wantSent(t, "P11: some box", b, someText([]int{0, 1, 39, 40, 41, from.Intn(42)}[from.Intn(6)]))
		seen[e]++
	}
	for _, e := range []api.Errno{api.OK, api.ErrLong, api.ErrMute, api.ErrSpent} {
		if seen[e] < 50 {
			t.Errorf("P11: only %d boxes answer %d", seen[e], e)
		}
	}
}

func TestP11DisksErrors(t *testing.T) {
	texts := []string{"", "x", someText(40), someText(41), someText(300)}
	for _, text := range texts {
		for _, disk := range noDisks {
			letter, plan, e := pawl.Send(disk, text)
			wantText(t, fmt.Sprintf("P11: Send on %d bytes", len(disk)), letter+plan, e, "", api.ErrDisk)
		}
		for _, disk := range someDisks() {
			want, _ := modelSort(disk)
			if want == api.OK {
				continue
			}
			letter, plan, e := pawl.Send(disk, text)
			wantText(t, fmt.Sprintf("P11: Send(%x, %x)", disk, text), letter+plan, e, "", want)
		}
		for _, c := range sides {
			b := third()
			c.change(&b)
			if c.want == api.OK {
				place{}.wantSent(t, "P11: "+c.what, b, text)
				continue
			}
			letter, plan, e := pawl.Send(b.disk(0, 0), text)
			wantText(t, "P11: Send, "+c.what, letter+plan, e, "", c.want)
		}
	}
}

func TestP11SingleBytesTurned(t *testing.T) {
	for _, disk := range []string{second(), third().disk(0, 0), third().disk(1, 1), fourth().disk(1, 0)} {
		for at := range len(disk) {
			other := poke(disk, at, string([]byte{disk[at] ^ 1}))
			if want, _ := modelSort(other); want != api.OK {
				letter, plan, e := pawl.Send(other, "text")
				wantText(t, fmt.Sprintf("P11: Send with byte %d turned", at), letter+plan, e, "", want)
			}
		}
	}
}
