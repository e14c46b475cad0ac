package promises

import (
	"fmt"
	"math/rand"
	"testing"

	"pawl/api"
	"pawl/pawl"
)

func TestP12Known(t *testing.T) {
	a, b := pair(3, 4)
	disks := []string{a.disk(0, 0), b.disk(0, 0)}
	high := unhex(t, "d8d9dadbdcdddedfe0e1e2e3e4e5e6e7e8e9eaebecedeeeff0f1f2f3f4f5f6f7f8f9fafbfcfdfeff")
	for _, c := range []struct {
		who              int
		letter           string
		draw             int
		text, side, sent string
	}{
		{0, "", 0, "x", "", "0100007dccac7f7e5f312442e858fd9f"},
		{0, "", 0, "y", "", "0101007dccac7f4d58cf761839242432"},
		{0, "", 0, "z", "", "0102007dccac7f86498a082d432fd5f1"},
		{1, "0102007dccac7f86498a082d432fd5f1", 5, "z", "010200030003040279b3d9c3c623cce83bc025e042c368d19dea045590f77ff2000000057dccac7f010042c40d2fd2fa59d701010cb71bee98eeee65", ""},
		{1, "0100007dccac7f7e5f312442e858fd9f", 5, "x", "010200030003040179b3d9c3c623cce83bc025e042c368d19dea045590f77ff2000000057dccac7f01010cb71bee98eeee65", ""},
		{1, "", 0, "w", "010201030003040179b3d9c3c623cce8b6f8c38d1a3be5279dea045590f77ff2000000057dccac7f01010cb71bee98eeee65", "020000000041a735d9817a3b6f3f8c98"},
		{0, "020000000041a735d9817a3b6f3f8c98", 6, "w", "0003000103030400baf2a7735ff387b55ad2a46c7284e097b6f8c38d1a3be52700000006000041a7", ""},
		{0, "", 0, high, "", "0300030001cb91e2eb5910b592582e04ec8472605ff9b22b8bf0fb9029f24549b7ac655d81f18179d438f4187deb56c994aca66383ba13"},
		{0, "", 0, "", "", "0301030001cb91d26193ac0722e019"},
		{1, "0301030001cb91d26193ac0722e019", 7, "", "0104000201030402cf82ba3bf33a4286acc5dba1937c39e5a2b52f7018cb2d0f000000070001cb9101010cb71bee98eeee65030023d43c59336a6951", ""},
		{1, "0101007dccac7f4d58cf761839242432", 8, "y", "0104000201030401cf82ba3bf33a4286acc5dba1937c39e5a2b52f7018cb2d0f000000070001cb91030023d43c59336a6951", ""},
		{1, "0300030001cb91e2eb5910b592582e04ec8472605ff9b22b8bf0fb9029f24549b7ac655d81f18179d438f4187deb56c994aca66383ba13", 8, high, "0104000201030400cf82ba3bf33a4286acc5dba1937c39e5a2b52f7018cb2d0f000000070001cb91", ""},
	} {
		disk, plan := disks[c.who], ""
		if c.letter == "" {
			letter, p, e := pawl.Send(disk, c.text)
			wantText(t, fmt.Sprintf("P11: Send(.., %x)", c.text), letter, e, unhex(t, c.sent), api.OK)
			plan = p
		} else {
			text, p, e := pawl.Receive(disk, unhex(t, c.letter), c.draw)
			wantText(t, fmt.Sprintf("P12: Receive(.., %s, %d)", c.letter, c.draw), text, e, c.text, api.OK)
			plan = p
		}
		there, e := pawl.Apply(disk, plan)
		if c.side != "" {
			side := (unhex(t, c.side) + zeros(96))[:96]
			want := "PAWL\x04" + string([]byte{1 - disk[5]}) + zeros(26) + side + zeros(96)
			if disk[5] == 0 {
				want = want[:32] + zeros(96) + side
			}
			wantText(t, "P12: the disk then", there, e, want, api.OK)
		}
		disks[c.who] = there
	}
}

func wantLook(t *testing.T, what string, disk string, step, got, prev int, kept string) {
	t.Helper()
	v, e := pawl.Look(disk)
	if e != api.OK || v.Step != step || v.Got != got || v.Prev != prev || v.Kept != kept {
		t.Errorf("%s: Look = %+v, %d, want step %d, got %d, prev %d, kept %x", what, v, e, step, got, prev, kept)
	}
}

func send(t *testing.T, disk *string, text string) string {
	t.Helper()
	letter, plan, e := pawl.Send(*disk, text)
	if e != api.OK {
		t.Fatalf("P11: Send(.., %q): %d", text, e)
	}
	*disk, _ = pawl.Apply(*disk, plan)
	return letter
}

func receive(t *testing.T, disk *string, letter string, draw int, want string, wantE api.Errno) {
	t.Helper()
	text, plan, e := pawl.Receive(*disk, letter, draw)
	wantText(t, "P12: Receive of "+name(letter), text, e, want, wantE)
	if e != api.OK && plan != "" {
		t.Errorf("P12: a plan with the error %d", e)
	}
	*disk, _ = pawl.Apply(*disk, plan)
}

func TestP12Examples9And10(t *testing.T) {
	first, second := pair(3, 4)
	a, b := first.disk(0, 0), second.disk(0, 0)
	x, y, z := send(t, &a, "x"), send(t, &a, "y"), send(t, &a, "z")
	for i, letter := range []string{x, y, z} {
		if letter[0] != 1 || int(letter[1]) != i || letter[2] != 0 {
			t.Errorf("P11: example 9: %s", name(letter))
		}
	}
	receive(t, &b, z, 5, "z", api.OK)
	wantLook(t, "P12: example 9", b, 2, 3, 0, "\x01\x00\x01\x01")
	receive(t, &b, x, 5, "x", api.OK)
	wantLook(t, "P12: example 9", b, 2, 3, 0, "\x01\x01")
	receive(t, &b, x, 5, "", api.ErrGone)
	receive(t, &b, z, 5, "", api.ErrGone)
	w := send(t, &b, "w")
	if w[:3] != "\x02\x00\x00" {
		t.Errorf("P11: example 10: %s", name(w))
	}
	receive(t, &a, w, 6, "w", api.OK)
	wantLook(t, "P12: example 10", a, 3, 1, 3, "")
	if v := send(t, &a, "v"); v[:3] != "\x03\x00\x03" {
		t.Errorf("P11: example 10: %s", name(v))
	}
	_, second = pair(0, 4)
	b = second.disk(0, 0)
	receive(t, &b, z, 5, "", api.ErrSkip)
	if b != second.disk(0, 0) {
		t.Errorf("P12: example 10: a refused letter has changed the disk")
	}
}

// A letter that comes as soon as it is written, in turns as long as they may be.
func TestP12ToAndFro(t *testing.T) {
	first, second := pair(0, 0)
	disks := []string{first.disk(0, 0), second.disk(0, 0)}
	for step := 1; step < 30; step++ {
		from, to := &disks[1-step%2], &disks[step%2]
		many := []int{1, 2, 50}[step%3]
		for i := range many {
			letter := send(t, from, someText(i%41))
			if int(letter[0]) != step || int(letter[1]) != i {
				t.Fatalf("P11: letter %d of step %d: %s", i, step, name(letter))
			}
			receive(t, to, letter, 1000*step+i+1, someText(i%41), api.OK)
			receive(t, to, letter, 1, "", api.ErrGone)
		}
	}
	wantLook(t, "P12: behind 29 turns", disks[1], 30, 50, 2, "")
	wantLook(t, "P12: behind 28 turns", disks[0], 29, 2, 1, "")
	_, _, e := pawl.Send(disks[1], "x")
	_, _, f := pawl.Send(disks[0], "x")
	if e != api.ErrSpent || f != api.ErrSpent {
		t.Errorf("P11: Send at step 30: %d; behind 50 letters of step 29: %d", e, f)
	}
}

// Thirteen letters, as many as skip lets come in any order, in many orders: all end at one disk but for the draws.
func TestP12AnyOrder(t *testing.T) {
	from := rand.New(rand.NewSource(12))
	first, second := pair(12, 30)
	a, ends := first.disk(0, 0), map[string]bool{}
	var letters []string
	for i := range 13 {
		letters = append(letters, send(t, &a, someText(3*i)))
	}
	orders := [][]int{{0, 1, 2, 3, 4, 5, 6, 7, 8, 9, 10, 11, 12}, {12, 11, 10, 9, 8, 7, 6, 5, 4, 3, 2, 1, 0}}
	for range 30 {
		orders = append(orders, from.Perm(13))
	}
	for _, order := range orders {
		b := second.disk(0, 3)
		for _, i := range order {
			receive(t, &b, letters[i], 77, someText(3*i), api.OK)
			receive(t, &b, letters[i], 78, "", api.ErrGone)
		}
		ends[b] = true
	}
	if len(ends) != 1 {
		t.Errorf("P12: the same letters in %d orders end at %d disks", len(orders), len(ends))
	}
}

// talk is what two parties have, what either has written, and which of its letters the other has taken.
type talk struct {
	t       *testing.T
	from    *rand.Rand
	seen    map[api.Errno]int
	boxes   [2]box
	places  [2]place
	letters [2][]string
	texts   [2][]string
	taken   [2]map[int]bool
}

func (k *talk) write(who int) {
	k.t.Helper()
	text := someText(k.from.Intn(41))
	letter, after, e := k.places[who].wantSent(k.t, "P11: a talk", k.boxes[who], text)
	k.seen[e]++
	if e == api.OK {
		k.letters[who], k.texts[who] = append(k.letters[who], letter), append(k.texts[who], text)
		k.goOn(who, after)
	}
}

func (k *talk) goOn(who int, after box) {
	k.boxes[who] = after
	k.places[who].live = 1 - k.places[who].live
}

// pick tells which letter comes: mostly the last or one not long before it.
func (k *talk) pick(who int) int {
	last := len(k.letters[who]) - 1
	switch k.from.Intn(20) {
	case 0, 1:
		return k.from.Intn(last + 1)
	case 2, 3, 4, 5, 6, 7, 8, 9:
		return max(0, last-k.from.Intn(8))
	}
	return last
}

func (k *talk) spoil(who int) {
	k.t.Helper()
	letter := k.letters[who][k.pick(who)]
	spoilt := flip(letter, k.from.Intn(8*len(letter)))
	_, e := k.places[1-who].wantTaken(k.t, "P12: a spoilt letter", k.boxes[1-who], spoilt, 1+k.from.Intn(1000))
	k.seen[e]++
	if e == api.OK {
		k.t.Fatalf("P12: %s was spoilt, and is taken", name(letter))
	}
}

func (k *talk) take(who int) {
	k.t.Helper()
	at, other, draw := k.pick(who), 1-who, 1+k.from.Intn(2147483645)
	letter, before := k.letters[who][at], k.boxes[other]
	after, e := k.places[other].wantTaken(k.t, "P12: a talk", before, letter, draw)
	k.seen[e]++
	if e != api.OK {
		return
	}
	text, _, _ := modelReceive(before, letter, draw)
	if text != k.texts[who][at] || k.taken[who][at] {
		k.t.Fatalf("P12: the text is %x, was %x (taken before: %t)", text, k.texts[who][at], k.taken[who][at])
	}
	k.taken[who][at] = true
	k.goOn(other, after)
}

// Either writes or takes, and what comes is new, late, out of order, for the second time, spoilt, or comes never.
func TestP12Talks(t *testing.T) {
	from, seen := rand.New(rand.NewSource(1200)), map[api.Errno]int{}
	for round := range 250 {
		a, b := pair([]int{0, 1, 3, 12, from.Intn(13)}[round%5], []int{0, 1, 4, 30, from.Intn(31)}[from.Intn(5)])
		k := talk{t: t, from: from, seen: seen, boxes: [2]box{a, b}, places: [2]place{{more: 1}, {}}, taken: [2]map[int]bool{{}, {}}}
		who := 0
		for range 150 {
			if from.Intn(8) == 0 {
				who = 1 - who
			}
			switch {
			case from.Intn(2) == 0 || len(k.letters[who]) == 0:
				k.write(who)
			case from.Intn(8) == 0:
				k.spoil(who)
			default:
				k.take(who)
			}
		}
	}
	for _, e := range []api.Errno{api.OK, api.ErrMute, api.ErrFrame, api.ErrStep, api.ErrGone, api.ErrSkip, api.ErrTag} {
		if seen[e] < 20 {
			t.Errorf("P12: in all talks only %d answers are %d", seen[e], e)
		}
	}
}

// fail carries a plan out till the power fails somewhere, and recovers.
func fail(t *testing.T, from *rand.Rand, disk string, plan string) string {
	t.Helper()
	records, _ := modelRecords(plan, len(disk)/32)
	keep := make([]byte, 40)
	for i := range keep {
		keep[i] = '0' + byte(from.Intn(2))
	}
	there, e := pawl.Crash(disk, plan, from.Intn(len(records)+1), string(keep))
	repair, f := pawl.Recover(there)
	again, g := pawl.Apply(there, repair)
	if e != api.OK || f != api.OK || g != api.OK {
		t.Fatalf("P7, P10, P6: Crash, Recover, Apply: %d, %d, %d", e, f, g)
	}
	return again
}

// The power fails in every plan, and each call is made again till its plan is carried out: no letter is lost, and none is taken twice.
func TestP12PowerFails(t *testing.T) {
	from := rand.New(rand.NewSource(1203))
	first, second := pair(2, 3)
	disks, many := []string{first.disk(0, 1), second.disk(0, 0)}, [30]int{}
	for step := 1; step < 30; step++ {
		many[step] = 1 + from.Intn(5)
		for i := range many[step] {
			text, letter, who := someText(i+step), "", 1-step%2
			for before := disks[who]; disks[who] == before; {
				l, plan, e := pawl.Send(before, text)
				if e != api.OK || letter != "" && l != letter {
					t.Fatalf("P11: Send behind a failure: %x, %d, before that %x", l, e, letter)
				}
				letter = l
				disks[who] = fail(t, from, before, plan)
			}
			for before := disks[1-who]; disks[1-who] == before; {
				got, plan, e := pawl.Receive(before, letter, 1+from.Intn(1000000))
				if got != text || e != api.OK {
					t.Fatalf("P12: Receive behind a failure: %x, %d, want %x", got, e, text)
				}
				disks[1-who] = fail(t, from, before, plan)
			}
			wantRefused(t, "P12: a letter that was taken", disks[1-who], letter, 1, api.ErrGone)
		}
	}
	wantLook(t, "P12: behind all failures", disks[1], 30, many[29], many[28], "")
}
