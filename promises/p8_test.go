package promises

import (
	"fmt"
	"math"
	"math/rand"
	"testing"

	"pawl/api"
	"pawl/pawl"
)

func TestP8Need(t *testing.T) {
	want := []int{5, 5, 5, 7, 7, 7, 9, 9, 9, 11, 11, 11, 11, 13, 13, 13, 15, 15, 15, 17, 17, 17, 19, 19, 19, 21, 21, 21, 21, 23, 23}
	for c := range 31 {
		n, e := pawl.Need(c)
		wantNumber(t, fmt.Sprintf("P8: Need(%d)", c), n, e, want[c], api.OK)
	}
	for _, c := range []int{-1, -2, 31, 32, 40, 255, 256, 256 + 3, 1 << 32, 1<<32 + 3, -1<<32 + 3, math.MaxInt, math.MinInt, math.MinInt + 3} {
		n, e := pawl.Need(c)
		wantNumber(t, fmt.Sprintf("P8: Need(%d)", c), n, e, 0, api.ErrNumber)
	}
}

// modelCreate is the box that Create should make.
func modelCreate(c api.Config, secret string, draw int) box {
	b := box{role: c.Role, skip: c.Skip, cap: c.Cap, root: secret, out: noughts, in: noughts, secret: draw, peer: c.Peer}
	if c.Role == 0 {
		d := modelPower(c.Peer, draw)
		four := string([]byte{byte(d >> 24), byte(d >> 16), byte(d >> 8), byte(d)})
		b.step, b.out, b.root = 1, modelMix(secret, "c"+four), modelMix(secret, "r"+four)
	}
	return b
}

func wantCreated(t *testing.T, sectors int, c api.Config, secret string, draw int) {
	t.Helper()
	what := fmt.Sprintf("P8: Create(%d sectors, %+v, %x, %d)", sectors, c, secret, draw)
	blank := zeros(32 * sectors)
	plan, e := pawl.Create(blank, c, secret, draw)
	if e != api.OK {
		t.Fatalf("%s: %d", what, e)
	}
	b := modelCreate(c, secret, draw)
	want := b.disk(0, sectors-len(b.disk(0, 0))/32)
	disk, e := pawl.Apply(blank, plan)
	wantText(t, what+", carried out", disk, e, want, api.OK)
	wantSure(t, what, blank, plan, want, blank, want)
}

func TestP8Example6(t *testing.T) {
	want := "PAWL" + zeros(28) + "\x01\x00\x00\x00\x00\x01\x00\x00" + "12345678" + zeros(16) + "\x00\x00\x00\x02" + zeros(28) + zeros(64)
	c := api.Config{Role: 1, Skip: 1, Cap: 0, Peer: 0}
	plan, e := pawl.Create(zeros(160), c, "12345678", 2)
	if e != api.OK {
		t.Fatalf("P8: example 6: %d", e)
	}
	disk, e := pawl.Apply(zeros(160), plan)
	wantText(t, "P8: example 6", disk, e, want, api.OK)
	plan, e = pawl.Create(zeros(128), c, "12345678", 2)
	wantText(t, "P8: example 6 on four sectors", plan, e, "", api.ErrSmall)
	plan, e = pawl.Create(zeros(160), api.Config{Role: 1, Skip: 1, Cap: 3}, "12345678", 2)
	wantText(t, "P8: example 6 with cap 3", plan, e, "", api.ErrSmall)
	plan, e = pawl.Create(zeros(160), api.Config{Role: 1, Skip: 1, Peer: 7}, "12345678", 2)
	wantText(t, "P8: example 6 with peer 7", plan, e, "", api.ErrNumber)
}

func TestP8KnownKeysOfRole0(t *testing.T) {
	plan, e := pawl.Create(zeros(160), api.Config{Role: 0, Skip: 12, Cap: 2, Peer: 49}, plain, 3)
	if e != api.OK {
		t.Fatalf("P8: Create of role 0: %d", e)
	}
	disk, e := pawl.Apply(zeros(160), plan)
	want := "PAWL\x02" + zeros(27) + "\x00\x01\x00\x00\x00\x0c\x02\x00" + unhex(t, "fd242c6a850f475a") + unhex(t, "de0330be64c0be3f") + zeros(8) + "\x00\x00\x00\x03" + "\x00\x00\x00\x31" + zeros(24) + zeros(64)
	wantText(t, "P8: Create of role 0", disk, e, want, api.OK)
}

// Every cap, on the smallest disk, on one with a sector more, and on the largest.
func TestP8EveryCap(t *testing.T) {
	for c := range 31 {
		need := 1 + 2*((71+10*c)/32)
		for _, sectors := range []int{need, need + 1, 40} {
			wantCreated(t, sectors, api.Config{Role: 0, Skip: 12, Cap: c, Peer: 2147483646}, plain, 2147483645)
			wantCreated(t, sectors, api.Config{Role: 1, Skip: 12, Cap: c}, plain, 2147483645)
		}
		for _, sectors := range []int{1, need - 2, need - 1} {
			for role := range 2 {
				config := api.Config{Role: role, Skip: 12, Cap: c, Peer: 1 - role}
				for _, disk := range []string{zeros(32 * sectors), someDisk(sectors)} {
					plan, e := pawl.Create(disk, config, plain, 1)
					wantText(t, fmt.Sprintf("P8: Create(%d sectors, %+v)", sectors, config), plan, e, "", api.ErrSmall)
				}
			}
		}
	}
}

func TestP8OrdinaryAndEdgeNumbers(t *testing.T) {
	for _, secret := range someKeys {
		for _, draw := range secretNumbers {
			wantCreated(t, 5, api.Config{Role: 1, Skip: draw % 13}, secret, draw)
		}
	}
	from := rand.New(rand.NewSource(8))
	for _, peer := range publicNumbers {
		for _, draw := range secretNumbers {
			wantCreated(t, 7+from.Intn(3), api.Config{Role: 0, Skip: from.Intn(13), Cap: from.Intn(6), Peer: peer}, someKeys[from.Intn(len(someKeys))], draw)
		}
	}
}

// What two boxes that fit together share is the same for both.
func TestP8BoxesFitTogether(t *testing.T) {
	public, _ := pawl.Public(99)
	plan, e := pawl.Create(zeros(160), api.Config{Role: 0, Peer: public}, plain, 5)
	disk, f := pawl.Apply(zeros(160), plan)
	v, g := pawl.Look(disk)
	if e != api.OK || f != api.OK || g != api.OK {
		t.Fatalf("P8: Create, Apply, Look: %d, %d, %d", e, f, g)
	}
	d := modelPower(v.Public, 99)
	four := string([]byte{byte(d >> 24), byte(d >> 16), byte(d >> 8), byte(d)})
	wantText(t, "P8: the sending key, as the other makes it", disk[48:56], api.OK, modelMix(plain, "c"+four), api.OK)
	wantText(t, "P8: the root, as the other makes it", disk[40:48], api.OK, modelMix(plain, "r"+four), api.OK)
}

func TestP8ErrNumber(t *testing.T) {
	wrong := []api.Config{{Role: 0}, {Role: 1, Peer: 1}, {Role: 1, Peer: 7}, {Role: 1, Peer: -1}, {Role: 1, Peer: 2147483646}, {Role: 1, Peer: 1 << 32}}
	for _, n := range []int{-1, 2, 3, 255, 256, 257, 1 << 32, 1<<32 + 1, math.MaxInt, math.MinInt} {
		wrong = append(wrong, api.Config{Role: n}, api.Config{Role: n, Peer: 7})
	}
	for _, n := range []int{-1, 13, 14, 255, 256, 1 << 32, math.MaxInt, math.MinInt} {
		wrong = append(wrong, api.Config{Role: 1, Skip: n}, api.Config{Role: 0, Skip: n, Peer: 7})
	}
	for _, n := range []int{-1, -4, 31, 32, 255, 256, 1 << 32, math.MaxInt, math.MinInt} {
		wrong = append(wrong, api.Config{Role: 1, Cap: n}, api.Config{Role: 0, Cap: n, Peer: 7})
	}
	for _, n := range neitherNumbers {
		wrong = append(wrong, api.Config{Role: 0, Peer: n})
	}
	// With each of these, the errors that are named behind it do not matter.
	disks := []string{zeros(1280), zeros(160), zeros(32), second(), someDisk(1)}
	secrets := []string{plain, "1234567", "123456789", ""}
	for _, disk := range disks {
		for _, secret := range secrets {
			for _, c := range wrong {
				plan, e := pawl.Create(disk, c, secret, 2)
				wantText(t, fmt.Sprintf("P8: Create(%d sectors, %+v, %q, 2)", len(disk)/32, c, secret), plan, e, "", api.ErrNumber)
			}
			for _, draw := range append([]int{2147483646}, neitherNumbers...) {
				for _, c := range []api.Config{{Role: 1}, {Role: 0, Peer: 7}} {
					plan, e := pawl.Create(disk, c, secret, draw)
					wantText(t, fmt.Sprintf("P8: Create(%d sectors, %+v, %q, %d)", len(disk)/32, c, secret, draw), plan, e, "", api.ErrNumber)
				}
			}
		}
	}
}

func TestP8OtherErrors(t *testing.T) {
	one, none := api.Config{Role: 1}, api.Config{Role: 2, Skip: -1}
	for _, disk := range noDisks {
		for _, c := range []api.Config{one, none} {
			for _, secret := range []string{plain, ""} {
				for _, draw := range []int{0, 2} {
					plan, e := pawl.Create(disk, c, secret, draw)
					wantText(t, fmt.Sprintf("P8: Create on %d bytes", len(disk)), plan, e, "", api.ErrDisk)
				}
			}
		}
	}
	for _, secret := range wrongKeys {
		for _, disk := range []string{zeros(160), zeros(128), zeros(32), second(), someDisk(1)} {
			plan, e := pawl.Create(disk, one, secret, 2)
			wantText(t, fmt.Sprintf("P8: Create with a secret of %d bytes", len(secret)), plan, e, "", api.ErrKey)
		}
	}
	for at := range 160 {
		for _, b := range []string{"\x01", "\x80", "\xff"} {
			plan, e := pawl.Create(poke(zeros(160), at, b), one, plain, 2)
			wantText(t, fmt.Sprintf("P8: Create with %x in byte %d", b, at), plan, e, "", api.ErrUsed)
		}
	}
	for _, disk := range someDisks() {
		if sort, _ := modelSort(disk); len(disk) >= 160 && sort != api.ErrBlank {
			plan, e := pawl.Create(disk, one, plain, 2)
			wantText(t, fmt.Sprintf("P8: Create on %x", disk), plan, e, "", api.ErrUsed)
		}
	}
	plan, e := pawl.Create(zeros(1279)+"\x01", one, plain, 2)
	wantText(t, "P8: Create with a last byte behind all that the box needs", plan, e, "", api.ErrUsed)
}
