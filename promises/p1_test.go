package promises

import (
	"math/rand"
	"strings"
	"testing"
	"time"

	"pawl/api"
	"pawl/pawl"
)

func TestP1NothingBesideAnError(t *testing.T) {
	from := rand.New(rand.NewSource(1))
	for range 5000 {
		in := wildInputs(from)
		for _, c := range calls {
			got := c.ask(in)
			if got.e < api.OK || got.e > api.ErrSkip {
				t.Fatalf("P1: %s answers the error %d", c.name, got.e)
			}
			if got.e != api.OK && got != (answer{e: got.e}) {
				t.Fatalf("P1: %s answers %+v beside an error", c.name, got)
			}
		}
	}
}

// A call that reads such texts through does not come to the end of these rounds in time.
func TestP1LongTextsByTheirLength(t *testing.T) {
	good, huge := fourth().disk(0, 0), strings.Repeat("\x05", 1<<26)
	late := time.Now().Add(10 * time.Second)
	for round := range 5000 {
		if time.Now().After(late) {
			t.Fatalf("P1: only %d rounds with long texts in ten seconds", round)
		}
		wantLong(t, good, huge)
		if t.Failed() {
			return
		}
	}
}

func wantLong(t *testing.T, good string, huge string) {
	t.Helper()
	text, e := pawl.Mix(plain, huge)
	wantText(t, "P1: Mix of a long text", text, e, "", api.ErrLong)
	text, e = pawl.Mix(huge, huge)
	wantText(t, "P1: Mix of a long key and text", text, e, "", api.ErrKey)
	text, e = pawl.Seal(plain, head, huge)
	wantText(t, "P1: Seal of a long text", text, e, "", api.ErrLong)
	text, e = pawl.Seal(plain, huge, huge)
	wantText(t, "P1: Seal of a long head and text", text, e, "", api.ErrFrame)
	text, e = pawl.Seal(huge, huge, huge)
	wantText(t, "P1: Seal of a long key, head and text", text, e, "", api.ErrKey)
	text, e = pawl.Unseal(plain, head, huge)
	wantText(t, "P1: Unseal of a long text", text, e, "", api.ErrLong)
	text, e = pawl.Unseal(plain, huge, huge)
	wantText(t, "P1: Unseal of a long head and text", text, e, "", api.ErrFrame)
	text, e = pawl.Unseal(huge, huge, huge)
	wantText(t, "P1: Unseal of a long key, head and text", text, e, "", api.ErrKey)
	letter, plan, e := pawl.Send(good, huge)
	wantText(t, "P1: Send of a long text", letter+plan, e, "", api.ErrLong)
	wantRefused(t, "P1: Receive of a long letter", good, huge, 1, api.ErrFrame)
	wantRefused(t, "P1: Receive of a long letter, with a wrong draw", good, huge, 0, api.ErrNumber)
}

// The lengths of huge and of huge[1:] differ in whether they are whole sectors.
func wantLongDisk(t *testing.T, huge string) {
	t.Helper()
	for _, disk := range []string{huge, huge[1:]} {
		text, e := pawl.Apply(disk, huge)
		wantText(t, "P1: Apply on a long disk", text, e, "", api.ErrDisk)
		text, e = pawl.Crash(disk, huge, -1, huge)
		wantText(t, "P1: Crash on a long disk", text, e, "", api.ErrDisk)
		text, e = pawl.Create(disk, api.Config{Role: 2}, huge, 0)
		wantText(t, "P1: Create on a long disk", text, e, "", api.ErrDisk)
		text, e = pawl.Recover(disk)
		wantText(t, "P1: Recover of a long disk", text, e, "", api.ErrDisk)
		wantSort(t, "P1: Look at a long disk", disk, api.ErrDisk)
		text, more, e := pawl.Send(disk, huge)
		wantText(t, "P1: Send on a long disk", text+more, e, "", api.ErrDisk)
		wantRefused(t, "P1: Receive on a long disk", disk, huge, 0, api.ErrDisk)
	}
	small := zeros(160)
	text, e := pawl.Apply(small, huge)
	wantText(t, "P1: Apply of a long plan", text, e, "", api.ErrPlan)
	text, e = pawl.Crash(small, huge, 0, huge)
	wantText(t, "P1: Crash in a long plan", text, e, "", api.ErrPlan)
	text, e = pawl.Crash(small, barrier, 1, huge)
	wantText(t, "P1: Crash with a long keep", text, e, "", api.ErrLong)
	text, e = pawl.Create(small, api.Config{Role: 1}, huge, 1)
	wantText(t, "P1: Create with a long secret", text, e, "", api.ErrKey)
}

// Of what are barriers or right writes throughout, only the length tells that it is no plan.
func TestP1LongPlansByTheirLength(t *testing.T) {
	late := time.Now().Add(10 * time.Second)
	for _, huge := range []string{strings.Repeat(barrier, 1<<26), strings.Repeat(zeros(33), 1<<21)} {
		for round := range 5000 {
			if time.Now().After(late) {
				t.Fatalf("P1: only %d rounds with long plans in ten seconds", round)
			}
			wantLongDisk(t, huge)
			if t.Failed() {
				return
			}
		}
	}
}

func TestP1TheFirstErrorNamed(t *testing.T) {
	long, short := strings.Repeat("x", 201), "1234567"
	text, e := pawl.Mix(short, long)
	wantText(t, "P1: Mix, ErrKey and ErrLong", text, e, "", api.ErrKey)
	text, e = pawl.Seal(short, short, long)
	wantText(t, "P1: Seal, ErrKey and ErrLong", text, e, "", api.ErrKey)
	text, e = pawl.Seal(short, plain, "")
	wantText(t, "P1: Seal, ErrKey and ErrFrame", text, e, "", api.ErrKey)
	text, e = pawl.Seal(plain, plain, long)
	wantText(t, "P1: Seal, ErrFrame and ErrLong", text, e, "", api.ErrFrame)
	text, e = pawl.Unseal(short, head, short)
	wantText(t, "P1: Unseal, ErrKey and ErrFrame", text, e, "", api.ErrKey)
	text, e = pawl.Unseal(short, head, long)
	wantText(t, "P1: Unseal, ErrKey and ErrLong", text, e, "", api.ErrKey)
	text, e = pawl.Unseal(short, head, ones)
	wantText(t, "P1: Unseal, ErrKey and ErrTag", text, e, "", api.ErrKey)
	text, e = pawl.Unseal(plain, plain, long)
	wantText(t, "P1: Unseal, ErrFrame and ErrLong", text, e, "", api.ErrFrame)
	text, e = pawl.Unseal(plain, plain, ones)
	wantText(t, "P1: Unseal, ErrFrame and ErrTag", text, e, "", api.ErrFrame)
	text, e = pawl.Unseal(plain, head, long)
	wantText(t, "P1: Unseal, ErrLong and ErrTag", text, e, "", api.ErrLong)
	text, e = pawl.Apply(zeros(33), "x")
	wantText(t, "P1: Apply, ErrDisk and ErrPlan", text, e, "", api.ErrDisk)
	text, e = pawl.Crash(zeros(33), "x", -1, long)
	wantText(t, "P1: Crash, ErrDisk and all others", text, e, "", api.ErrDisk)
	text, e = pawl.Crash(zeros(32), "x", -1, long)
	wantText(t, "P1: Crash, ErrPlan, ErrNumber and ErrLong", text, e, "", api.ErrPlan)
	text, e = pawl.Crash(zeros(32), "", 1, long)
	wantText(t, "P1: Crash, ErrNumber and ErrLong", text, e, "", api.ErrNumber)
	wrong, right := api.Config{Role: 2}, api.Config{Role: 1}
	text, e = pawl.Create(zeros(33), wrong, short, 0)
	wantText(t, "P1: Create, ErrDisk, ErrNumber and ErrKey", text, e, "", api.ErrDisk)
	text, e = pawl.Create(full("x"), wrong, short, 1)
	wantText(t, "P1: Create, ErrNumber, ErrKey, ErrSmall and ErrUsed", text, e, "", api.ErrNumber)
	text, e = pawl.Create(full("x"), right, short, 1)
	wantText(t, "P1: Create, ErrKey, ErrSmall and ErrUsed", text, e, "", api.ErrKey)
	text, e = pawl.Create(full("x"), right, plain, 1)
	wantText(t, "P1: Create, ErrSmall and ErrUsed", text, e, "", api.ErrSmall)
	mute := second()
	for _, c := range []struct {
		what, disk string
		want       api.Errno
	}{{"ErrDisk and ErrLong", zeros(33), api.ErrDisk}, {"ErrBlank and ErrLong", zeros(160), api.ErrBlank}, {"ErrTorn and ErrLong", mute + full("x"), api.ErrTorn}, {"ErrStore and ErrLong", full("x"), api.ErrStore}, {"ErrLong and ErrMute", mute, api.ErrLong}, {"ErrLong and ErrSpent", fullBox().disk(0, 0), api.ErrLong}} {
		letter, plan, e := pawl.Send(c.disk, long)
		wantText(t, "P1: Send, "+c.what, letter+plan, e, "", c.want)
		if c.want != api.ErrLong {
			wantRefused(t, "P1: Receive, the disk's errors and all others", c.disk, long, 0, c.want)
		} else {
			wantRefused(t, "P1: Receive, ErrNumber and ErrFrame", c.disk, long, 0, api.ErrNumber)
		}
	}
}
