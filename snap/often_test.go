package snap_test

import (
	"math/rand"
	"slices"
	"testing"

	"coffret/api"
	"coffret/seg"
)

// filling: records whose frames take just so many sectors, to the last byte; with bytes more they take one sector more.
func filling(sectors, more int) []api.Record {
	frames := (sectors - 1) / 64 // that are full ahead of the last one
	last := 256*(sectors-64*frames) + more
	return append(slices.Repeat(records(29, 16384), frames), records(1+last/566, last)...)
}

func TestFilling(t *testing.T) { // what the tests lean on
	for n := 1; n < 200; n++ {
		if list := filling(n, 0); !canBe(list) || framesOf(list) != n || seg.Sectors(list[29*((n-1)/64):]...) != n-(n-1)/64*64 {
			t.Fatalf("%d sectors, not %d", framesOf(list), n)
		}
		if list := filling(n, 1); framesOf(list) != n+1 {
			t.Fatalf("%d sectors, not %d", framesOf(list), n+1)
		}
	}
}

func TestJustRoomEnough(t *testing.T) { // P18.3: to the byte, of areas of any size; a byte more of the state or of the changes is too much
	for _, kind := range kinds {
		for half := 2; half <= 12; half++ {
			for n := 1; n < half; n++ {
				x := begun(t, kind, 2*half+half%2, 1000, always, filling(half, 0)...)
				state, changes := filling(n, 0), filling(half-n, 0)
				for i := range 4 {
					is(t, "Save", x.k.Save(state, changes...), api.OK)
					x.stands(t, 2+i, 0, 3+2*i)
				}
				x.shows(t, slices.Concat(state, changes)...)
				is(t, "Save, a state too long", x.k.Save(filling(n, 1), changes...), api.ErrFull)
				x.shows(t, filling(n, 1)...)
				is(t, "Save", x.k.Save(state, changes...), api.OK)
				is(t, "Save, changes too long", x.k.Save(state, filling(half-n, 1)...), api.ErrFull)
				x.opens(t, state...)
			}
		}
	}
}

func TestJustNumbersEnough(t *testing.T) { // P18.1, P18.3: the same of the vault's limit, to the number
	for _, kind := range kinds {
		for limit := 2; limit < 12; limit++ {
			for n := 1; n < limit; n++ {
				ticks := func(n int) []api.Record { return slices.Repeat([]api.Record{tick(n)}, n) }
				x := begun(t, kind, 100, limit, always, ticks(limit)...)
				state, changes := ticks(n), ticks(limit-n)
				for i := range 4 {
					is(t, "Save", x.k.Save(state, changes...), api.OK)
					x.stands(t, 2+i, 50-framesOf(state)-framesOf(changes), 3+2*i)
				}
				x.shows(t, slices.Concat(state, changes)...)
				is(t, "Save, a record more", x.k.Save(state, ticks(limit-n+1)...), api.ErrSpent)
				x.shows(t, state...)
				is(t, "Save", x.k.Save(state, changes...), api.OK)
				is(t, "Save, a record more", x.k.Save(ticks(n+1), changes...), api.ErrSpent)
				x.opens(t, ticks(n+1)...)
			}
		}
	}
}

// saves what has room: it is OK; what is there behind that.
func (x *bench) saves(t *testing.T, was, state, changes []api.Record) []api.Record {
	t.Helper()
	epoch := x.k.Epoch()
	is(t, "Save", x.k.Save(state, changes...), api.OK)
	if x.k.Epoch() > epoch {
		return slices.Concat(state, changes)
	}
	return slices.Concat(was, changes)
}

func TestHoweverOften(t *testing.T) { // P18.3: in the smallest area that there is room in, and in some others
	for i, kind := range kinds {
		for half := 2; half <= 5; half++ {
			x := begun(t, kind, 2*half, 1000, always, tick(0))
			list := []api.Record{tick(0)}
			for n := range 300 * (1 + 9*i) {
				list = x.saves(t, list, []api.Record{tick(n)}, []api.Record{tick(n + 1)})
			}
			x.stands(t, x.m.Epoch, half-len(list), x.m.Count)
			if want := 1 + (300*(1+9*i)-1)/(half-1); x.m.Epoch != want {
				t.Errorf("epoch %d, not %d", x.m.Epoch, want)
			}
			x.opens(t, list...)
		}
	}
}

func TestLongStates(t *testing.T) { // P18.3: of several frames, which together with the changes take all sectors
	for _, kind := range kinds {
		for _, n := range []int{1, 63, 64, 65, 128, 200} {
			for _, change := range []int{1, 5, 64} {
				x := begun(t, kind, 2*(n+change), 1000, always, filling(n+change, 0)...)
				for _, more := range []int{0, 1, 0} {
					want := api.OK
					if more > 0 {
						want = api.ErrFull
					}
					is(t, "Save", x.k.Save(filling(n, more), filling(change, 0)...), want)
					x.stands(t, x.m.Epoch, more*(change-1), x.m.Count)
				}
				x.opens(t, slices.Concat(filling(n, 0), filling(change, 0))...)
			}
		}
	}
}

func TestTheGreatestDisk(t *testing.T) { // P18.3: an area of 2048 sectors
	x := begun(t, "ideal", api.MaxSectors, 1000, always, tick(0))
	state, changes := filling(31*64, 0), filling(64, 0)
	list := []api.Record{tick(0)}
	for range 70 {
		list = x.saves(t, list, state, changes)
	}
	x.shows(t, list...)
	x.stands(t, 1+70-31, 0, 1+31+2*(70-31)) // behind 31 of them there was no room for more
}

func TestAnythingThatHasRoom(t *testing.T) { // P18.3: states and changes of any sizes, one behind the other, as long as both have room; the records are those that were saved
	for seed := range int64(100) {
		rnd := rand.New(rand.NewSource(seed))
		half := 7 + rnd.Intn(pick(rnd, 10, 30, 150))
		x := begun(t, kinds[seed%2], 2*half+rnd.Intn(2), 2000, always, tick(0))
		list := []api.Record{tick(0)}
		for range 40 {
			var state, changes []api.Record
			for !canBe(state) || !canBe(changes) || sizeOf(changes) > 16384 || framesOf(state)+framesOf(changes) > half {
				state, changes = anyList(rnd), anyList(rnd)
			}
			list = x.saves(t, list, state, changes)
			if rnd.Intn(5) == 0 {
				x.shows(t, list...)
			}
		}
		x.opens(t, list...)
	}
}
