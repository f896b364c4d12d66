package snap_test

import (
	"slices"
	"testing"

	"coffret/api"
)

// spare: a copy of records, with room behind them that something stands in.
func spare(list []api.Record) []api.Record {
	return append(slices.Clone(list), tick(77), tick(78))[:len(list)]
}

// whole: the room behind records, too.
func whole(list []api.Record) []api.Record {
	return list[:len(list)+2]
}

func TestRecordsAreNeitherChangedNorKept(t *testing.T) { // P18.1: spare room included; what is written into them behind the call isn't seen
	for _, kind := range kinds {
		for _, size := range []int{300, 20000} {
			x := begun(t, kind, 260, 1000, always, tick(0))
			list := []api.Record{tick(0)}
			for range 12 {
				were := [][]api.Record{records(1+size/500, size), records(20, 10000)}
				state, changes := spare(were[0]), spare(were[1])
				list = x.saves(t, list, state, changes)
				for i, now := range [][]api.Record{state, changes} {
					if !slices.Equal(now, were[i]) || !slices.Equal(whole(now)[len(now):], []api.Record{tick(77), tick(78)}) {
						t.Fatal("what is handed in is changed")
					}
					clear(whole(now))
				}
				is(t, "Save", x.k.Save(were[0], tick(1)), api.OK)
				list = append(list, tick(1))
				x.shows(t, list...)
			}
			if x.k.Epoch() < 4 {
				t.Fatal("too few epochs")
			}
		}
	}
}

func TestStateAndChangesMayShareMemory(t *testing.T) { // P18.1: one list, cut in two, or the same twice
	for _, kind := range kinds {
		x := begun(t, kind, 8, 1000, always, records(2, 256*4)...)
		list := records(6, 256*3)
		is(t, "Save", x.k.Save(list[:2], list[1:4]...), api.OK)
		x.shows(t, append(slices.Clone(list[:2]), list[1:4]...)...)
		is(t, "Save", x.k.Save(list[4:5], list[4:]...), api.OK)
		is(t, "Save", x.k.Save(list[:3], list[:3]...), api.OK)
		x.opens(t, slices.Concat(list[:3], list[:3])...)
		if !slices.Equal(list, records(6, 256*3)) {
			t.Fatal("what is handed in is changed")
		}
	}
}

func TestOpenedRecordsAreNewMemory(t *testing.T) { // P18.1: spoiling them changes nothing of the keeper, nor of another answer
	for _, kind := range kinds {
		x := begun(t, kind, 200, 1000, always, tick(0))
		list := x.saves(t, []api.Record{tick(0)}, records(40, 16000), records(10, 5000))
		one, two := x.there(t), x.there(t)
		clear(one[:cap(one)])
		if !slices.Equal(two, list) {
			t.Fatal("two answers share memory")
		}
		is(t, "Turn", x.k.Turn(two...), api.OK)
		clear(two[:cap(two)])
		is(t, "Save", x.k.Save(nil, tick(2)), api.OK)
		x.opens(t, append(list, tick(2))...)
	}
}

func TestTwoKeepersKnowNothingOfOneAnother(t *testing.T) { // P18.1: over two disks
	for _, kind := range kinds {
		x, y := begun(t, kind, 8, 1000, always, tick(0)), begun(t, kind, 8, 1000, 5, tick(10))
		is(t, "Save", y.k.Save(nil, tick(11)), api.OK)
		seen := y.seen()
		for n := range 10 {
			is(t, "Save", x.k.Save([]api.Record{tick(n)}, tick(n+1)), api.OK)
		}
		x.d.Off(0)
		if y.seen() != seen {
			t.Fatal("something is changed")
		}
		is(t, "Save", y.k.Save(nil, tick(12)), api.OK)
		is(t, "Save", y.k.Save(nil, tick(13)), api.OK)
		is(t, "Save", y.k.Save([]api.Record{tick(14)}, tick(15)), api.ErrSpent)
		y.opens(t, tick(10), tick(11), tick(12), tick(13))
	}
}
