package meter_test

import (
	"testing"

	"coffret/api"
	"coffret/disk"
	"coffret/meter"
)

func TestWhatIsHandedInIsNotKept(t *testing.T) { // P12.1: what becomes of a digest behind the call isn't seen
	m := meter.New(2, nil)
	root := digest(1)
	is(t, "Next", m.Next(0, root), api.OK)
	root[0]++
	says(t, "written over", m, meter.Value{Count: 1, Root: digest(1)}, 1)
}

func TestAnswersStayAsTheyAre(t *testing.T) { // P12.1: whatever the register does behind them, or the caller with them
	m, want := gone(t, 5, nil)
	one, _ := m.Get()
	two, _ := m.Get()
	two.Count, two.Epoch, two.Root = 9, 9, digest(9)
	says(t, "written over", m, want, 4)
	is(t, "Next", m.Next(4, digest(2)), api.OK)
	if one != want {
		t.Errorf("behind a Next it is %v, not %v", one, want)
	}
}

func TestTheDiskThatIsHandedInIsUsed(t *testing.T) { // P12.1: what becomes of its power, and its fuse, behind New is seen
	d := disk.New(1)
	m := meter.New(5, d)
	is(t, "Next", m.Next(0, digest(1)), api.OK)
	d.Off(0)
	isDown(t, "off behind New", m)
	d.On()
	d.Arm(1, 0)
	is(t, "armed behind New", m.Next(0, digest(2)), api.ErrDown)
	if !d.Down() || d.Acts() != 2 {
		t.Errorf("Down %t, Acts %d", d.Down(), d.Acts())
	}
}
