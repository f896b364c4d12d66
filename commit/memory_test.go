package commit_test

import (
	"slices"
	"testing"

	"coffret/api"
	"coffret/disk"
	"coffret/meter"
)

func TestRecordsAreNeitherChangedNorKept(t *testing.T) { // P17.1: spare room included; what is written into them behind the call isn't seen
	for _, kind := range kinds {
		for _, size := range []int{300, 40000} {
			v, _ := vaultOf(kind, 1000)
			d := disk.New(1000)
			m := meter.New(always, d)
			l := opens(t, v, d, m)
			var all []api.Record
			for i := range 3 {
				whole := append(filled(size), tick(77), tick(78))
				if i > 0 {
					whole = append(filled(min(size, 16384)), tick(77), tick(78))
				}
				list, was := whole[:len(whole)-2], slices.Clone(whole)
				if i == 0 {
					is(t, "Turn", l.Turn(list...), api.OK)
				} else {
					is(t, "Commit", l.Commit(list...), api.OK)
				}
				if !slices.Equal(whole, was) {
					t.Fatal("what is handed in is changed")
				}
				clear(whole)
				all = append(all, was[:len(was)-2]...)
				is(t, "Commit", l.Commit(tick(1)), api.OK)
				all = append(all, tick(1))
			}
			opens(t, v, d, m, all...)
		}
	}
}

func TestOpenedRecordsAreNewMemory(t *testing.T) { // P17.1: spoiling them changes nothing of the log, nor of another answer
	for _, kind := range kinds {
		v, _ := vaultOf(kind, 1000)
		d := disk.New(200)
		m := meter.New(always, d)
		l := opens(t, v, d, m)
		list := filled(17000)
		is(t, "Turn", l.Turn(list...), api.OK)
		is(t, "Commit", l.Commit(tick(1)), api.OK)
		list = append(list, tick(1))
		one, two := opened(t, v, d, m), opened(t, v, d, m)
		clear(one[:cap(one)])
		if !slices.Equal(two, list) {
			t.Fatal("two answers share memory")
		}
		l = opens(t, v, d, m, list...)
		is(t, "Turn", l.Turn(two...), api.OK)
		clear(two[:cap(two)])
		is(t, "Commit", l.Commit(tick(2)), api.OK)
		opens(t, v, d, m, append(list, tick(2))...)
	}
}
