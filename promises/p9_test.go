package promises

import (
	"fmt"
	"math/rand"
	"testing"

	"pawl/api"
	"pawl/pawl"
)

func wantView(t *testing.T, what string, disk string, want api.View, wantE api.Errno) {
	t.Helper()
	v, e := pawl.Look(disk)
	if v != want || e != wantE {
		t.Errorf("%s: Look(%x) = %+v, %d, want %+v, %d", what, disk, v, e, want, wantE)
	}
}

// wantSort looks at a disk that is good, or else has some of the disk's errors.
func wantSort(t *testing.T, what string, disk string, want api.Errno) {
	t.Helper()
	v, e := pawl.Look(disk)
	if e != want || e != api.OK && v != (api.View{}) {
		t.Errorf("%s: Look(%x) = %+v, %d, want %d", what, disk, v, e, want)
	}
}

func TestP9Example7(t *testing.T) {
	wantView(t, "P9: example 7", second(), api.View{Role: 1, Skip: 1, Public: 49}, api.OK)
	wantSort(t, "P9: example 7", poke(second(), 159, "\x01"), api.ErrTorn)
	wantSort(t, "P9: example 7", poke(second(), 0, "\x00"), api.ErrStore)
	wantSort(t, "P9: example 7", poke(second(), 32, "\x02"), api.ErrStore)
	wantSort(t, "P9: example 7", poke(second(), 68, "\x01"), api.ErrStore)
}

func TestP9Views(t *testing.T) {
	wantView(t, "P9: a box with two keys", third().disk(1, 0), api.View{Step: 5, Sent: 7, Got: 9, Prev: 50, Skip: 1, Cap: 2, Public: 1840700269, Peer: 2147483646, Kept: "\x02\x31\x04\x08"}, api.OK)
	from := rand.New(rand.NewSource(9))
	for _, b := range []box{third(), fullBox()} {
		for live := range 2 {
			for more := 0; len(b.disk(live, more)) <= 1280; more++ {
				wantView(t, "P9: a good disk", b.disk(live, more), b.view(), api.OK)
			}
		}
	}
	for range 3000 {
		b := someBox(from)
		more := from.Intn(41 - len(b.disk(0, 0))/32)
		wantView(t, "P9: a good disk", b.disk(from.Intn(2), more), b.view(), api.OK)
	}
}

// sides are boxes with one thing changed, each with the answer that the document's table asks for.
var sides = []struct {
	what   string
	change func(b *box)
	want   api.Errno
}{
	{"as it is", func(b *box) {}, api.OK},
	{"role 1 at an odd step", func(b *box) { b.role = 1 }, api.ErrStore},
	{"role 2", func(b *box) { b.role = 2 }, api.ErrStore},
	{"role 2 at an even step", func(b *box) { b.role, b.step, b.kept = 2, 6, nil }, api.ErrStore},
	{"role 0 at an even step", func(b *box) { b.step, b.kept = 6, nil }, api.ErrStore},
	{"role 1 at an even step", func(b *box) { b.role, b.step, b.kept = 1, 6, nil }, api.OK},
	{"step 29", func(b *box) { b.step = 29 }, api.OK},
	{"step 30", func(b *box) { b.role, b.step, b.kept = 1, 30, nil }, api.OK},
	{"step 31", func(b *box) { b.step = 31 }, api.ErrStore},
	{"step 32", func(b *box) { b.role, b.step, b.kept = 1, 32, nil }, api.ErrStore},
	{"step 255", func(b *box) { b.step = 255 }, api.ErrStore},
	{"sent 0", func(b *box) { b.sent = 0 }, api.OK},
	{"sent 50", func(b *box) { b.sent = 50 }, api.OK},
	{"sent 51", func(b *box) { b.sent = 51 }, api.ErrStore},
	{"got 50", func(b *box) { b.got = 50 }, api.OK},
	{"got 51", func(b *box) { b.got = 51 }, api.ErrStore},
	{"got 0, no key of the step before", func(b *box) { b.got, b.kept = 0, b.kept[:1] }, api.OK},
	{"got 0, a key of the step before", func(b *box) { b.got = 0 }, api.ErrStore},
	{"prev 0", func(b *box) { b.prev = 0 }, api.OK},
	{"prev 51", func(b *box) { b.prev = 51 }, api.ErrStore},
	{"skip 12", func(b *box) { b.skip = 12 }, api.OK},
	{"skip 13", func(b *box) { b.skip = 13 }, api.ErrStore},
	{"skip 0, no keys", func(b *box) { b.skip, b.kept = 0, nil }, api.OK},
	{"skip 0, with keys", func(b *box) { b.skip = 0 }, api.ErrStore},
	{"no keys", func(b *box) { b.kept = nil }, api.OK},
	{"as many keys as the cap, 1", func(b *box) { b.cap, b.kept = 1, b.kept[:1] }, api.OK},
	{"a key more than the cap, with room for it", func(b *box) { b.cap = 1 }, api.ErrStore},
	{"a key with cap 0", func(b *box) { b.cap, b.kept = 0, b.kept[:1] }, api.ErrStore},
	{"a key more than the cap, without room for it", func(b *box) { b.kept = append(b.kept, kept{4, 9, plain}) }, api.ErrStore},
	{"keys of noughts", func(b *box) { b.root, b.out, b.in, b.kept[0].key = noughts, noughts, noughts, noughts }, api.OK},
	{"secret 0", func(b *box) { b.secret = 0 }, api.ErrStore},
	{"secret 1", func(b *box) { b.secret = 1 }, api.OK},
	{"secret P - 1", func(b *box) { b.secret = 2147483646 }, api.ErrStore},
	{"secret P", func(b *box) { b.secret = 2147483647 }, api.ErrStore},
	{"secret P + 2", func(b *box) { b.secret = 2147483649 }, api.ErrStore},
	{"secret 2^32 - 1", func(b *box) { b.secret = 4294967295 }, api.ErrStore},
	{"peer 0", func(b *box) { b.peer = 0 }, api.ErrStore},
	{"peer 1", func(b *box) { b.peer = 1 }, api.OK},
	{"peer P", func(b *box) { b.peer = 2147483647 }, api.ErrStore},
	{"peer 2^31", func(b *box) { b.peer = 2147483648 }, api.ErrStore},
	{"peer 2^32 - 1", func(b *box) { b.peer = 4294967295 }, api.ErrStore},
	{"keys in falling order of steps", func(b *box) { b.kept[0], b.kept[1] = b.kept[1], b.kept[0] }, api.ErrStore},
	{"keys in falling order of counts", func(b *box) { b.skip, b.kept = 2, []kept{{4, 8, plain}, {4, 7, plain}} }, api.ErrStore},
	{"keys in rising order of counts", func(b *box) { b.skip, b.kept = 2, []kept{{4, 7, plain}, {4, 8, plain}} }, api.OK},
	{"rising steps, falling counts", func(b *box) { b.kept = []kept{{2, 49, plain}, {4, 0, plain}} }, api.OK},
	{"the same key twice", func(b *box) { b.skip, b.kept = 2, []kept{{4, 8, plain}, {4, 8, plain}} }, api.ErrStore},
	{"two keys of one letter", func(b *box) { b.skip, b.kept = 2, []kept{{4, 8, plain}, {4, 8, ones}} }, api.ErrStore},
	{"two keys of a step with skip 1", func(b *box) { b.kept = []kept{{2, 7, plain}, {2, 8, plain}} }, api.ErrStore},
	{"two keys of the step before with skip 1", func(b *box) { b.kept = []kept{{4, 7, plain}, {4, 8, plain}} }, api.ErrStore},
	{"one key of a step, two of the next", func(b *box) {
		b.cap, b.kept = 3, []kept{{2, 7, plain}, {4, 7, plain}, {4, 8, plain}}
	}, api.ErrStore},
	{"two keys of a step, two of the next, with skip 2", func(b *box) {
		b.cap, b.skip, b.kept = 4, 2, []kept{{2, 7, plain}, {2, 8, plain}, {4, 7, plain}, {4, 8, plain}}
	}, api.OK},
	{"a key of step 0", func(b *box) { b.kept[0].step = 0 }, api.ErrStore},
	{"a key of step 0 at an odd step", func(b *box) { b.kept = []kept{{0, 0, plain}} }, api.ErrStore},
	{"a key of step 1 at an odd step", func(b *box) { b.kept[0].step = 1 }, api.ErrStore},
	{"a key of step 3 at an odd step", func(b *box) { b.kept[0].step = 3 }, api.ErrStore},
	{"a key of the box's own step", func(b *box) { b.kept[1].step = 5 }, api.ErrStore},
	{"a key of the step behind", func(b *box) { b.kept[1].step = 6 }, api.ErrStore},
	{"a key of step 1 at an even step", func(b *box) { b.role, b.step, b.kept = 1, 4, []kept{{1, 49, plain}} }, api.OK},
	{"a key of step 2 at an even step", func(b *box) { b.role, b.step, b.kept = 1, 4, []kept{{2, 1, plain}} }, api.ErrStore},
	{"a key of count 50", func(b *box) { b.kept[0].count = 50 }, api.ErrStore},
	{"a key of count 255", func(b *box) { b.kept[0].count = 255 }, api.ErrStore},
	{"a key of count 0", func(b *box) { b.kept[0].count = 0 }, api.OK},
	{"a key of the step before, count got", func(b *box) { b.kept[1].count = 9 }, api.ErrStore},
	{"a key of the step before, count below got", func(b *box) { b.kept[1].count = 8 }, api.OK},
	{"a key of the step before, count 49, got 50", func(b *box) { b.got, b.kept[1].count = 50, 49 }, api.OK},
	{"a key of an earlier step, count above got", func(b *box) { b.got, b.kept = 1, []kept{{2, 1, plain}} }, api.OK},
}

func TestP9EachRuleOfTheLiveSide(t *testing.T) {
	for _, c := range sides {
		b := third()
		c.change(&b)
		for live := range 2 {
			sort := c.want
			wantSort(t, "P9: "+c.what, b.disk(live, 0), sort)
			if sort == api.OK {
				sort = api.ErrTorn
			}
			wantSort(t, "P9: torn, "+c.what, b.disk(live, 0)+full("x"), sort)
		}
	}
}

func TestP9TheFirstSteps(t *testing.T) {
	for step := range 5 {
		bare := box{role: 1 - step%2, step: step, skip: 1, root: plain, out: noughts, in: noughts, secret: 5}
		if step > 0 {
			bare.peer = 7
		}
		wantView(t, fmt.Sprintf("P9: a bare box of step %d", step), bare.disk(0, 0), bare.view(), api.OK)
		for _, c := range []struct {
			what   string
			change func(b *box)
			from   int
		}{
			{"sent 1", func(b *box) { b.sent = 1 }, 1},
			{"got 1", func(b *box) { b.got = 1 }, 2},
			{"prev 1", func(b *box) { b.prev = 1 }, 3},
			{"a sending key", func(b *box) { b.out = noughts[:7] + "\x01" }, 1},
			{"another sending key", func(b *box) { b.out = "\x01" + noughts[:7] }, 1},
			{"a receiving key", func(b *box) { b.in = noughts[:7] + "\x01" }, 2},
			{"another receiving key", func(b *box) { b.in = "\x01" + noughts[:7] }, 2},
			{"a peer", func(b *box) { b.peer = 1 }, 1},
			{"a root of noughts", func(b *box) { b.root = noughts }, 0},
			{"a key of step 1", func(b *box) { b.cap, b.got, b.kept = 1, 1, []kept{{1, 0, plain}} }, 2},
		} {
			b := bare
			c.change(&b)
			want := api.OK
			if step < c.from || len(b.kept) > 0 && step%2 == 1 {
				want = api.ErrStore
			}
			wantSort(t, fmt.Sprintf("P9: step %d with %s", step, c.what), b.disk(0, 0), want)
		}
		if step > 0 {
			b := bare
			b.peer = 0
			wantSort(t, fmt.Sprintf("P9: step %d without a peer", step), b.disk(0, 0), api.ErrStore)
		}
	}
}

func TestP9TheSorts(t *testing.T) {
	b := third()
	good := b.disk(0, 0)
	for sectors := 1; sectors <= 40; sectors++ {
		disk := zeros(32 * sectors)
		wantSort(t, "P9: blank", disk, api.ErrBlank)
		wantSort(t, "P9: no more noughts in sector 0", poke(disk, 31, "\x01"), api.ErrStore)
		if sectors > 1 {
			wantSort(t, "P9: noughts in sector 0 alone", poke(disk, 32, "\x01"), api.ErrTorn)
			wantSort(t, "P9: noughts but the last", poke(disk, len(disk)-1, "\x01"), api.ErrTorn)
		}
	}
	for _, c := range []struct {
		what, disk string
		want       api.Errno
	}{
		{"something on the other side", poke(good, 96, "\x01"), api.ErrTorn},
		{"something at the end of the other side", poke(good, 159, "\x01"), api.ErrTorn},
		{"the same box on both sides", poke(good, 96, b.side()), api.ErrTorn},
		{"something on the other side, 0", poke(b.disk(1, 0), 32, "\x01"), api.ErrTorn},
		{"something behind both sides", poke(b.disk(1, 1), 160, "\x01"), api.ErrTorn},
		{"something at the end of the largest disk", poke(b.disk(1, 35), 1279, "\x01"), api.ErrTorn},
		{"sector 0 of noughts, a right side", poke(good, 0, zeros(32)), api.ErrTorn},
		{"sector 0 of noughts, a wrong side", poke(good, 0, zeros(32)+"\x09"), api.ErrTorn},
		{"another cap in sector 0", poke(good, 4, "\x01"), api.ErrStore},
		{"another cap on the side", poke(good, 38, "\x01"), api.ErrStore},
		{"both caps 1, with two keys", poke(poke(good, 38, "\x01"), 4, "\x01"), api.ErrStore},
		{"cap 31", poke(poke(b.disk(0, 30), 38, "\x1f"), 4, "\x1f"), api.ErrStore},
		{"the other side live, which is noughts", poke(good, 5, "\x01"), api.ErrStore},
		{"side 2 live", poke(good, 5, "\x02"), api.ErrStore},
		{"side 2 live, with a right side there", "PAWL\x02\x02" + zeros(26) + zeros(128) + b.side(), api.ErrStore},
		{"side 3 live, with a right side there, and something besides", "PAWL\x02\x03" + zeros(26) + b.side() + zeros(128) + b.side(), api.ErrStore},
		{"side 255 live", poke(good, 5, "\xff"), api.ErrStore},
		{"another mark", poke(good, 0, "pAWL"), api.ErrStore},
		{"another mark, at its end", poke(good, 3, "K"), api.ErrStore},
		{"something in sector 0 behind the mark", poke(good, 6, "\x01"), api.ErrStore},
		{"something at the end of sector 0", poke(good, 31, "\x01"), api.ErrStore},
		{"something behind the keys", poke(good, 95, "\x01"), api.ErrStore},
		{"something behind the keys and besides", poke(poke(good, 95, "\x01"), 159, "\x01"), api.ErrStore},
		{"a sector too few", good[:128], api.ErrStore},
		{"the other side missing", good[:96], api.ErrStore},
		{"sector 0 alone", good[:32], api.ErrStore},
		{"a sector too few, side 1 live", b.disk(1, 0)[:128], api.ErrStore},
		{"no mark at all", full("x"), api.ErrStore},
	} {
		wantSort(t, "P9: "+c.what, c.disk, c.want)
	}
	for _, disk := range noDisks {
		wantSort(t, "P9: no disk", disk, api.ErrDisk)
	}
}

// turned tells what a byte is turned to: all, on a small disk; else each bit, and the bounds.
func turned(disk string, at int) []string {
	var l []string
	for c := range 256 {
		bits := c ^ int(disk[at])
		if len(disk) <= 224 || bits&(bits-1) == 0 || c == 50 || c == 51 {
			l = append(l, poke(disk, at, string([]byte{byte(c)})))
		}
	}
	return l
}

func TestP9SingleBytesTurned(t *testing.T) {
	for _, disk := range someDisks() {
		for at := range len(disk) {
			// Far behind, where no box reaches, each byte is like the other.
			if at >= 23*32 && at != len(disk)-1 && at%16 != 0 {
				continue
			}
			what := fmt.Sprintf("P9: byte %d turned", at)
			for _, other := range turned(disk, at) {
				want, _ := modelSort(other)
				wantSort(t, what, other, want)
			}
			if t.Failed() {
				return
			}
		}
	}
}

func TestP9ManyBytesTurned(t *testing.T) {
	from := rand.New(rand.NewSource(99))
	for range 30000 {
		b := someBox(from)
		disk := b.disk(from.Intn(2), from.Intn(2))
		for range 1 + from.Intn(3) {
			at := []int{from.Intn(len(disk)), 4 + from.Intn(2), 32 + from.Intn(64), 32 + modelSide(b.cap) + from.Intn(64)}[from.Intn(4)]
			disk = poke(disk, at, string([]byte{byte(from.Intn(60))}))
		}
		want, _ := modelSort(disk)
		wantSort(t, "P9: some bytes turned", disk, want)
		if t.Failed() {
			return
		}
	}
}
