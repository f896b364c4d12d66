package meter_test

import (
	"fmt"
	"math"
	"math/rand"
	"testing"

	"coffret/api"
	"coffret/disk"
	"coffret/meter"
)

// gone: a register over a disk, gone on once, to the epoch 3 and the digest 1.
func gone(t *testing.T, most int, d *disk.Disk) (*meter.Meter, meter.Value) {
	t.Helper()
	m := meter.New(most, d)
	is(t, "Next", m.Next(3, digest(1)), api.OK)
	return m, meter.Value{Count: 1, Epoch: 3, Root: digest(1)}
}

// isDown: a register tells nothing, and doesn't go on.
func isDown(t *testing.T, what string, m *meter.Meter) {
	t.Helper()
	if v, e := m.Get(); v != (meter.Value{}) || e != api.ErrDown {
		t.Errorf("%s: Get: %v, %d", what, v, e)
	}
	for _, epoch := range []int{math.MinInt, 0, 3, 4, math.MaxInt} { // said ahead of what is wrong with an epoch
		is(t, fmt.Sprintf("%s: Next of %d", what, epoch), m.Next(epoch, digest(9)), api.ErrDown)
	}
}

func TestTheHighestBitKeepsIt(t *testing.T) { // P12.1: that bit alone, whichever others are set
	keeps := []uint64{0, 1, 1<<63 - 1, 1 << 63, 1<<63 | 1, math.MaxUint64}
	for bit := range 64 {
		keeps = append(keeps, 1<<bit, ^uint64(1<<bit))
	}
	for _, keep := range keeps {
		d := disk.New(0)
		m, want := gone(t, 10, d)
		left := 9
		d.Arm(1, keep)
		is(t, fmt.Sprintf("keep %x", keep), m.Next(4, digest(2)), api.ErrDown)
		if keep>>63 == 1 {
			want, left = meter.Value{Count: 2, Epoch: 4, Root: digest(2)}, 8
		}
		if !d.Down() || d.Acts() != 2 {
			t.Errorf("keep %x: Down %t, Acts %d", keep, d.Down(), d.Acts())
		}
		isDown(t, fmt.Sprintf("keep %x", keep), m)
		d.On()
		says(t, fmt.Sprintf("keep %x", keep), m, want, left)
	}
}

func TestTheDiskLosesItsPowerToo(t *testing.T) { // P12.1: by the same bits, as layer 11's Off has them
	for bit := range 64 {
		for _, keep := range []uint64{1 << bit, ^uint64(1 << bit)} {
			d := disk.New(64)
			m := meter.New(1, d)
			for i := range d.Size() {
				d.Write(i, []byte{'w'})
			}
			d.Arm(1, keep)
			is(t, "Next", m.Next(0, digest(1)), api.ErrDown)
			for i := range d.Size() {
				if kept := d.Image()[i*api.Sector] == 'w'; kept != (keep>>i%2 == 1) {
					t.Errorf("keep %x: sector %d is kept: %t", keep, i, kept)
				}
			}
		}
	}
}

func TestTheFuseEndsInItsNext(t *testing.T) { // P12.1: not ahead, not behind, and once
	for n := 1; n < 8; n++ {
		d := disk.New(1)
		m := meter.New(100, d)
		d.Arm(n, 0)
		for k := range n - 1 {
			is(t, fmt.Sprintf("Next %d of %d", k, n), m.Next(k, digest(byte(k))), api.OK)
		}
		is(t, fmt.Sprintf("the last of %d", n), m.Next(n, digest(9)), api.ErrDown)
		d.On()
		if m.Count != n-1 || d.Acts() != n {
			t.Errorf("n %d: Count %d, Acts %d", n, m.Count, d.Acts())
		}
		for k := range 20 {
			is(t, "behind the fuse", m.Next(n+k, digest(byte(k))), api.OK)
		}
	}
}

func TestActsOfBothBurnTheFuse(t *testing.T) { // P12.1: a Next is an act as the disk's own are
	d := disk.New(1)
	m := meter.New(10, d)
	d.Arm(5, 1<<63)
	d.Write(0, []byte("ahead"))
	is(t, "Next", m.Next(0, digest(1)), api.OK)
	is(t, "Sync", d.Sync(), api.OK)
	d.Act()
	is(t, "the fifth act", m.Next(1, digest(2)), api.ErrDown)
	d.On()
	says(t, "kept", m, meter.Value{Count: 2, Epoch: 1, Root: digest(2)}, 8)
	d.Arm(2, 0)
	is(t, "Next", m.Next(1, digest(3)), api.OK)
	is(t, "Sync", d.Sync(), api.ErrDown)
	d.On()
	says(t, "the disk's act", m, meter.Value{Count: 3, Epoch: 1, Root: digest(3)}, 7)
}

func TestWhatIsNoActDoesNotBurnTheFuse(t *testing.T) { // P12.1: what is refused, and what only asks
	d := disk.New(1)
	m, want := gone(t, 2, d)
	d.Arm(1, 0)
	is(t, "Next of a lower epoch", m.Next(2, digest(9)), api.ErrArg)
	says(t, "asked", m, want, 1)
	d.Off(0)
	isDown(t, "off", m)
	d.On()
	is(t, "the last one", m.Next(3, digest(2)), api.OK)
	d.Arm(1, 0)
	is(t, "spent", m.Next(3, digest(9)), api.ErrSpent)
	if d.Down() || d.Acts() != 2 {
		t.Errorf("Down %t, Acts %d", d.Down(), d.Acts())
	}
	is(t, "the disk's act", d.Sync(), api.ErrDown)
}

func TestOffAndOn(t *testing.T) { // P12.1, P12.2: nothing is told meanwhile, and all of it behind it
	for _, keep := range []uint64{0, 1, 1 << 63, math.MaxUint64} {
		d := disk.New(1)
		m, want := gone(t, 5, d)
		for range 3 {
			d.Off(keep)
			isDown(t, "off", m)
			if m.Left() != 4 || m.Value != want || d.Acts() != 1 {
				t.Errorf("off: Left %d, %v, Acts %d", m.Left(), m.Value, d.Acts())
			}
			d.On()
			says(t, "on", m, want, 4)
		}
		is(t, "Next", m.Next(3, digest(2)), api.OK)
	}
}

func TestMadeWithoutPower(t *testing.T) { // P12.1: the power is the disk's as it is when it is asked
	d := disk.New(1)
	d.Off(0)
	m := meter.New(2, d)
	isDown(t, "made while it is off", m)
	d.On()
	says(t, "on", m, meter.Value{}, 2)
}

func TestWithoutADiskThePowerIsOn(t *testing.T) { // P12.1
	other := disk.New(1)
	m := meter.New(20, nil)
	for k := range 20 {
		other.Arm(1, 0)
		is(t, "Next", m.Next(k, digest(byte(k))), api.OK)
		other.Off(0)
		says(t, "gone on", m, meter.Value{Count: k + 1, Epoch: k, Root: digest(byte(k))}, 19-k)
		other.On()
	}
	if other.Acts() != 0 {
		t.Errorf("another disk has Acts %d", other.Acts())
	}
}

func TestTwoOverOneDisk(t *testing.T) { // P12.1: they share its power, and nothing else
	d := disk.New(1)
	one, two := meter.New(5, d), meter.New(7, d)
	is(t, "one", one.Next(1, digest(1)), api.OK)
	is(t, "two", two.Next(2, digest(2)), api.OK)
	is(t, "one", one.Next(1, digest(3)), api.OK)
	d.Arm(2, 1<<63)
	is(t, "two", two.Next(2, digest(4)), api.OK)
	is(t, "one, in which the power goes", one.Next(4, digest(5)), api.ErrDown)
	isDown(t, "one", one)
	isDown(t, "two", two)
	d.On()
	says(t, "one", one, meter.Value{Count: 3, Epoch: 4, Root: digest(5)}, 2)
	says(t, "two", two, meter.Value{Count: 2, Epoch: 2, Root: digest(4)}, 5)
}

func TestTwoDisks(t *testing.T) { // P12.1: registers know nothing of one another
	first, second := disk.New(1), disk.New(1)
	one, two := meter.New(5, first), meter.New(5, second)
	is(t, "one", one.Next(1, digest(1)), api.OK)
	first.Off(0)
	isDown(t, "one", one)
	says(t, "two", two, meter.Value{}, 5)
	is(t, "two", two.Next(0, digest(2)), api.OK)
	first.On()
	says(t, "one", one, meter.Value{Count: 1, Epoch: 1, Root: digest(1)}, 4)
	says(t, "two", two, meter.Value{Count: 1, Root: digest(2)}, 4)
}

func TestNobodyElseWritesIt(t *testing.T) { // P12.2: nothing that becomes of the disk's sectors does
	d := disk.New(4)
	m, want := gone(t, 5, d)
	image := string(d.Image())
	is(t, "Next", m.Next(3, digest(2)), api.OK)
	want.Count, want.Root = 2, digest(2)
	if string(d.Image()) != image {
		t.Error("a Next writes on the disk")
	}
	for i := range d.Size() {
		d.Write(i, []byte("mine"))
		d.Forge(i, []byte("forged"))
		d.Sync()
		d.Off(0)
		d.Forge(i, []byte("forged again"))
		d.On()
		says(t, "forged", m, want, 3)
	}
}

func TestWhatWasToldIsSaid(t *testing.T) { // P12.2: behind any losses of power, until the next one; and nothing ever goes down
	rnd := rand.New(rand.NewSource(2))
	for range 500 {
		d := disk.New(2)
		m := meter.New(200, d)
		var sure, maybe meter.Value // what was told last, and what the power went in behind it
		for k := range 150 {
			if rnd.Intn(5) == 0 {
				d.Arm(rnd.Intn(6), rnd.Uint64())
			}
			asked := meter.Value{Count: sure.Count + 1, Epoch: max(0, k/10+rnd.Intn(5)-2), Root: digest(byte(k))}
			switch e := m.Next(asked.Epoch, asked.Root); {
			case e == api.OK:
				sure, maybe = asked, asked
			case e == api.ErrDown:
				maybe = asked
			case e != api.ErrArg || asked.Epoch >= sure.Epoch:
				t.Fatalf("Next of %v behind %v: %d", asked, sure, e)
			}
			for range rnd.Intn(3) {
				d.Off(rnd.Uint64())
				d.On()
			}
			d.On()
			v, e := m.Get()
			if e != api.OK || v != sure && v != maybe || v.Count < sure.Count || v.Epoch < sure.Epoch {
				t.Fatalf("it says %v, %d, neither %v nor %v", v, e, sure, maybe)
			}
			sure, maybe = v, v
		}
	}
}
