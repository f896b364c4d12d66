package meter_test

import (
	"fmt"
	"math"
	"testing"

	"coffret/api"
	"coffret/disk"
	"coffret/meter"
)

func TestNoRegister(t *testing.T) { // P12.1
	var m *meter.Meter
	for range 2 {
		if v, e := m.Get(); v != (meter.Value{}) || e != api.ErrNil {
			t.Errorf("Get: %v, %d", v, e)
		}
		if m.Left() != 0 {
			t.Errorf("Left %d", m.Left())
		}
		for _, epoch := range []int{math.MinInt, -1, 0, 1, math.MaxInt} {
			is(t, fmt.Sprintf("Next of %d", epoch), m.Next(epoch, digest(1)), api.ErrNil)
		}
	}
}

func TestALowerEpoch(t *testing.T) { // P12.1: changes nothing, and is no act
	for _, c := range []struct {
		at    int
		lower []int
	}{
		{0, []int{-1, -2, -1 << 32, math.MinInt}},
		{1, []int{0, -1, math.MinInt}},
		{1 << 32, []int{1<<32 - 1, 1, 0, -1, -1 << 32}},
		{math.MaxInt, []int{math.MaxInt - 1, 1 << 40, 0, -1, math.MinInt}},
	} {
		d := disk.New(1)
		m := meter.New(3, d)
		is(t, "Next", m.Next(c.at, digest(1)), api.OK)
		want := meter.Value{Count: 1, Epoch: c.at, Root: digest(1)}
		for _, epoch := range c.lower {
			is(t, fmt.Sprintf("Next of %d behind %d", epoch, c.at), m.Next(epoch, digest(2)), api.ErrArg)
			says(t, "refused", m, want, 2)
		}
		if d.Acts() != 1 {
			t.Errorf("Acts %d", d.Acts())
		}
		is(t, "Next of the same epoch", m.Next(c.at, digest(2)), api.OK)
	}
}

func TestBelowTheFirstEpoch(t *testing.T) { // P12.1: a new register's is 0
	for _, epoch := range []int{-1, -1 << 40, math.MinInt} {
		m := meter.New(3, nil)
		is(t, fmt.Sprintf("Next of %d", epoch), m.Next(epoch, digest(2)), api.ErrArg)
		says(t, "refused", m, meter.Value{}, 3)
	}
}

func TestALowerEpochIsSaidFirst(t *testing.T) { // P12.1: ErrArg stands ahead of ErrSpent
	for most := range 3 {
		m := meter.New(most, nil)
		for range most {
			is(t, "Next", m.Next(3, digest(1)), api.OK)
		}
		at := m.Epoch
		is(t, "Next of a lower epoch, spent", m.Next(at-1, digest(2)), api.ErrArg)
		is(t, "Next of the same epoch, spent", m.Next(at, digest(2)), api.ErrSpent)
		is(t, "Next of a higher epoch, spent", m.Next(at+1, digest(2)), api.ErrSpent)
	}
}

func TestWithoutPowerIsSaidFirst(t *testing.T) { // P12.1: ErrDown stands ahead of ErrArg and ErrSpent
	d := disk.New(1)
	m, want := gone(t, 1, d)
	d.Off(0)
	isDown(t, "spent", m)
	d.On()
	is(t, "spent", m.Next(3, digest(2)), api.ErrSpent)
	says(t, "refused", m, want, 0)
}

func TestTheLastOneInWhichThePowerGoes(t *testing.T) { // P12.1: it is used up just if it is kept
	for _, keep := range []uint64{0, 1 << 63} {
		d := disk.New(1)
		m := meter.New(1, d)
		d.Arm(1, keep)
		is(t, "Next", m.Next(0, digest(1)), api.ErrDown)
		d.On()
		want := api.OK
		if keep != 0 {
			want = api.ErrSpent
		}
		is(t, fmt.Sprintf("keep %x: the next one", keep), m.Next(0, digest(2)), want)
	}
}
