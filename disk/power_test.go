package disk_test

import (
	"fmt"
	"math"
	"math/rand"
	"slices"
	"testing"

	"coffret/api"
	"coffret/disk"
)

// written: a disk of so many sectors, each of which was written once, and isn't safe.
func written(t *testing.T, size int) *disk.Disk {
	t.Helper()
	d := disk.New(size)
	for i := range size {
		is(t, "Write", d.Write(i, fmt.Append(nil, "new ", i)), api.OK)
	}
	return d
}

// isKept: of what written wrote, the sectors that keep tells are there; the others are of noughts.
func isKept(t *testing.T, d *disk.Disk, keep uint64) {
	t.Helper()
	d.On()
	for i := range d.Size() {
		want := ""
		if keep>>(i%64)%2 == 1 {
			want = fmt.Sprint("new ", i)
		}
		reads(t, fmt.Sprintf("keep %x", keep), d, i, want)
	}
}

func TestEachBitKeeps(t *testing.T) { // P11.1: each one the writes that have its number, by 64
	for bit := range 64 {
		for _, keep := range []uint64{1 << bit, ^uint64(1 << bit), 1<<bit - 1} {
			d := written(t, 200)
			d.Off(keep)
			isKept(t, d, keep)
			d = written(t, 200)
			d.Arm(1, keep)
			is(t, "Sync", d.Sync(), api.ErrDown)
			isKept(t, d, keep)
		}
	}
}

func TestOfManyWritesTheLastThatIsKept(t *testing.T) { // P11.1
	for keep := range uint64(1 << 6) {
		d := disk.New(1)
		d.Write(0, []byte("safe"))
		d.Sync()
		want := "safe"
		for k := range 6 {
			d.Write(0, fmt.Append(nil, "write ", k))
			if keep>>k%2 == 1 {
				want = fmt.Sprint("write ", k)
			}
		}
		reads(t, "ahead", d, 0, "write 5")
		d.Off(keep)
		d.On()
		reads(t, fmt.Sprintf("keep %x", keep), d, 0, want)
	}
}

func TestCountedFromTheSyncOn(t *testing.T) { // P11.1: and from the last loss of power on; refused ones, reads and syncs aren't counted
	d := disk.New(4)
	d.Write(3, []byte("synced"))
	d.Sync()
	d.Write(3, []byte("lost"))
	d.Off(0)
	d.Write(0, []byte("refused"))
	d.On()
	d.Write(4, []byte("refused"))
	d.Write(0, make([]byte, 257))
	d.Read(0)
	d.Act()
	d.Write(0, []byte("the first"))
	d.Act()
	d.Read(5)
	d.Write(1, []byte("the second"))
	d.Off(2)
	d.On()
	reads(t, "the first", d, 0, "")
	reads(t, "the second", d, 1, "the second")
	reads(t, "synced", d, 3, "synced")
	d.Write(2, []byte("the first again"))
	d.Off(1)
	d.On()
	reads(t, "the first again", d, 2, "the first again")
}

func TestAllThatIsThereIsSafe(t *testing.T) { // P11.1: behind a loss of power, what was kept as well as what wasn't
	d := disk.New(2)
	d.Write(0, []byte("kept"))
	d.Write(1, []byte("lost"))
	d.Off(1)
	for range 3 {
		d.On()
		reads(t, "kept", d, 0, "kept")
		reads(t, "lost", d, 1, "")
		d.Off(0)
	}
}

func TestSyncedOutlivesAllLosses(t *testing.T) { // P11.2: as it was, or as a later write made it
	rnd := rand.New(rand.NewSource(3))
	for range 500 {
		size := 1 + rnd.Intn(5)
		d := disk.New(size)
		may := make([][]string, size) // what a sector may be behind a loss of power
		for i := range may {
			may[i] = []string{padded("")}
		}
		settle := func() { // whatever is there is what it may be
			for i := range may {
				b, _ := d.Read(i)
				if !slices.Contains(may[i], string(b)) {
					t.Fatalf("sector %d is %s, none of %q", i, short(string(b)), may[i])
				}
				may[i] = []string{string(b)}
			}
		}
		for k := range 100 {
			i, b := rnd.Intn(size), fmt.Sprint("write ", k)
			if rnd.Intn(10) == 0 {
				d.Arm(rnd.Intn(20), rnd.Uint64())
			}
			if d.Write(i, []byte(b)) == api.OK {
				if got, _ := d.Read(i); string(got) != padded(b) {
					t.Fatalf("sector %d is %s, not %s", i, short(string(got)), b)
				}
			}
			may[i] = append(may[i], padded(b))
			if rnd.Intn(5) == 0 && d.Sync() == api.OK {
				for i := range may {
					may[i] = may[i][len(may[i])-1:]
				}
				settle()
			}
			if rnd.Intn(10) == 0 {
				d.Off(rnd.Uint64())
			}
			if d.Down() {
				d.On()
				settle()
			}
		}
	}
}

func TestSyncedIsThereWhateverIsKept(t *testing.T) { // P11.2
	for _, keep := range []uint64{0, 1, 2, 1 << 63, math.MaxUint64} {
		d := written(t, 70)
		is(t, "Sync", d.Sync(), api.OK)
		for range 3 {
			d.Off(keep)
			isKept(t, d, math.MaxUint64)
		}
		for n := 1; n < 4; n++ {
			d.Arm(n, keep)
			for d.Sync() == api.OK {
			}
			isKept(t, d, math.MaxUint64)
		}
	}
}

func TestSyncInWhichThePowerGoesDoesNothing(t *testing.T) { // P11.1
	d := written(t, 3)
	d.Arm(1, 2)
	is(t, "Sync", d.Sync(), api.ErrDown)
	if !d.Down() || d.Acts() != 4 {
		t.Errorf("Down %t, Acts %d", d.Down(), d.Acts())
	}
	isKept(t, d, 2)
}

func TestWriteInWhichThePowerGoes(t *testing.T) { // P11.1: it is one more of the writes that aren't safe
	for keep := range uint64(16) {
		d := disk.New(4)
		d.Arm(4, keep)
		for i := range 4 {
			want := api.OK
			if i == 3 {
				want = api.ErrDown
			}
			is(t, fmt.Sprintf("Write %d", i), d.Write(i, fmt.Append(nil, "new ", i)), want)
		}
		if !d.Down() || d.Acts() != 4 {
			t.Errorf("Down %t, Acts %d", d.Down(), d.Acts())
		}
		isKept(t, d, keep)
	}
}

func TestTheFuseEndsInItsAct(t *testing.T) { // P11.1: not ahead, not behind, and once
	for n := 1; n < 8; n++ {
		for _, kind := range []byte("WST") {
			d := disk.New(2)
			d.Arm(n, 5)
			for range n - 1 {
				if got := ask(d, call{kind: kind}); got != (answer{}) || d.Down() {
					t.Errorf("ahead of act %d of %c: %v, Down %t", n, kind, got, d.Down())
				}
			}
			want := answer{e: api.ErrDown}
			if kind == 'T' {
				want = answer{goes: true, keep: 5}
			}
			if got := ask(d, call{kind: kind}); got != want || d.Acts() != n || d.Down() != (kind != 'T') {
				t.Errorf("act %d of %c: %v, not %v, Acts %d, Down %t", n, kind, got, want, d.Acts(), d.Down())
			}
			d.On()
			for range 20 {
				if got := ask(d, call{kind: kind}); got != (answer{}) || d.Down() {
					t.Errorf("behind act %d of %c: %v, Down %t", n, kind, got, d.Down())
				}
			}
		}
	}
}

func TestWhatIsNoActDoesNotBurnTheFuse(t *testing.T) { // P11.1
	d := disk.New(2)
	d.Arm(2, 7)
	d.Write(2, nil)
	d.Write(0, make([]byte, 257))
	d.Write(-1, nil)
	d.Read(0)
	d.Read(9)
	d.Forge(0, []byte("forged"))
	d.Forge(9, nil)
	d.Image()
	d.Size()
	d.Down()
	d.On()
	if d.Acts() != 0 {
		t.Errorf("Acts %d", d.Acts())
	}
	is(t, "the first act", d.Sync(), api.OK)
	is(t, "the second one", d.Write(1, nil), api.ErrDown)
	for _, c := range []call{{kind: 'W'}, {kind: 'S'}, {kind: 'T'}, {kind: 'F'}, {kind: 'R'}} {
		ask(d, c) // the power is off
	}
	if d.Acts() != 2 {
		t.Errorf("Acts %d, not 2", d.Acts())
	}
}

func TestWhatEndsAFuse(t *testing.T) { // P11.1: a loss of power, or an Arm, whatever it says
	const never = -1
	for _, c := range []struct {
		what string
		end  func(d *disk.Disk)
		left int // acts behind it that are OK
	}{
		{"Off", func(d *disk.Disk) { d.Off(0) }, never},
		{"a later Arm", func(d *disk.Disk) { d.Arm(5, 0) }, 4},
		{"an earlier Arm", func(d *disk.Disk) { d.Arm(1, 0) }, 0},
		{"Arm(0)", func(d *disk.Disk) { d.Arm(0, 0) }, never},
		{"Arm(-1)", func(d *disk.Disk) { d.Arm(-1, 0) }, never},
		{"Arm of the least", func(d *disk.Disk) { d.Arm(math.MinInt, 0) }, never},
		{"Arm of the greatest", func(d *disk.Disk) { d.Arm(math.MaxInt, 0) }, never},
		{"not On", func(d *disk.Disk) { d.On() }, 1},
		{"not Forge", func(d *disk.Disk) { d.Forge(0, nil) }, 1},
		{"not Act, which burns it", func(d *disk.Disk) { d.Act() }, 0},
	} {
		d := disk.New(1)
		d.Arm(2, 0)
		c.end(d)
		d.On()
		acts := c.left
		if acts == never {
			acts = 30
		}
		for k := range acts {
			is(t, fmt.Sprintf("%s: act %d behind it", c.what, k), d.Sync(), api.OK)
		}
		if c.left != never {
			is(t, c.what+": the last act", d.Sync(), api.ErrDown)
		}
	}
}

func TestTheLaterArmKeeps(t *testing.T) { // P11.1: what it says, not what the elder one said
	d := disk.New(2)
	d.Arm(3, 1)
	d.Arm(3, 2)
	d.Write(0, []byte("lost"))
	d.Write(1, []byte("kept"))
	is(t, "Sync", d.Sync(), api.ErrDown)
	d.On()
	reads(t, "lost", d, 0, "")
	reads(t, "kept", d, 1, "kept")
}

func TestArmedWhileThePowerIsOff(t *testing.T) { // P11.1: what is off can't go off, so the fuse isn't ended by that
	d := disk.New(1)
	d.Off(0)
	d.Arm(2, 1)
	d.Off(0)
	d.Act()
	d.Sync()
	d.On()
	is(t, "the first act", d.Sync(), api.OK)
	is(t, "the second one", d.Write(0, []byte("kept")), api.ErrDown)
	d.On()
	reads(t, "kept", d, 0, "kept")
}

func TestOffTwiceIsOffOnce(t *testing.T) { // P11.1
	d := disk.New(1)
	d.Write(0, []byte("kept"))
	d.Off(1)
	d.Off(0)
	d.On()
	d.On()
	reads(t, "kept", d, 0, "kept")
	if d.Acts() != 1 {
		t.Errorf("Acts %d, not 1", d.Acts())
	}
}

func TestActDoesNotMakeThePowerGo(t *testing.T) { // P11.1: who calls does
	d := disk.New(1)
	d.Arm(2, math.MaxUint64)
	d.Write(0, []byte("written"))
	if goes, keep := d.Act(); !goes || keep != math.MaxUint64 || d.Down() {
		t.Errorf("%t, %x, Down %t", goes, keep, d.Down())
	}
	reads(t, "still on", d, 0, "written")
	is(t, "Write", d.Write(0, []byte("later")), api.OK)
	d.Off(1)
	d.On()
	reads(t, "as the one says who makes it go", d, 0, "written")
}

func TestForgeIsSafeAtOnce(t *testing.T) { // P11.1
	for _, down := range []bool{false, true} {
		d := disk.New(2)
		d.Write(0, []byte("mine"))
		if down {
			d.Off(1)
		}
		is(t, "Forge", d.Forge(0, []byte("forged")), api.OK)
		if image := string(d.Image()); image != padded("forged")+padded("") {
			t.Errorf("down %t: %s", down, short(image))
		}
		d.Off(math.MaxUint64)
		d.On()
		reads(t, "forged", d, 0, "forged")
	}
}

func TestAWriteBehindAForge(t *testing.T) { // P11.1: is a write like any other
	for keep, want := range []string{"forged", "later"} {
		d := disk.New(1)
		d.Write(0, []byte("ahead"))
		d.Forge(0, []byte("forged"))
		d.Write(0, []byte("later"))
		reads(t, "ahead", d, 0, "later")
		d.Off(uint64(keep))
		d.On()
		reads(t, fmt.Sprintf("keep %d", keep), d, 0, want)
	}
}

func TestForgedWritesAreNotCounted(t *testing.T) { // P11.1: they are as if they hadn't been
	for keep := range uint64(4) {
		d := disk.New(3)
		d.Write(1, []byte("as if it hadn't been"))
		d.Write(0, []byte("the first"))
		d.Write(1, []byte("nor this one"))
		d.Write(2, []byte("the second"))
		d.Forge(1, []byte("forged"))
		d.Off(keep)
		d.On()
		reads(t, "forged", d, 1, "forged")
		for k, want := range []string{"the first", "the second"} {
			if keep>>k%2 == 0 {
				want = ""
			}
			reads(t, fmt.Sprintf("keep %d", keep), d, 2*k, want)
		}
	}
}
