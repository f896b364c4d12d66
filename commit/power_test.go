package commit_test

import (
	"math"
	"math/rand"
	"slices"
	"testing"

	"coffret/api"
	"coffret/commit"
	"coffret/disk"
	"coffret/meter"
)

// step of a log: a Turn, or a Commit.
type step struct {
	turn bool
	list []api.Record
}

// do it.
func (s step) do(l *commit.Log) api.Errno {
	if s.turn {
		return l.Turn(s.list...)
	}
	return l.Commit(s.list...)
}

// behind it: what is opened, if that was there ahead.
func (s step) behind(list []api.Record) []api.Record {
	if s.turn {
		return s.list
	}
	return slices.Concat(list, s.list)
}

// acts that it is.
func (s step) acts() int {
	n := 2
	for _, list := range cut(s.list) {
		n += sectorsOf(sizeOf(list))
	}
	return n
}

// keeps: which writes may be kept, and whether the register's is.
func keeps(rnd *rand.Rand) []uint64 {
	list := []uint64{0, 1, 2, math.MaxInt64, 0x5555555555555555, rnd.Uint64() >> 1}
	for _, k := range slices.Clone(list) {
		list = append(list, k|1<<63)
	}
	return list
}

// life of three epochs, with frames of one sector and of several.
var life = []step{
	{true, []api.Record{tick(1), put(2, 300)}},
	{false, []api.Record{tick(3)}},
	{false, []api.Record{put(4, 512), put(5, 512)}},
	{true, []api.Record{tick(6)}},
	{false, []api.Record{tick(7), tick(8)}},
	{true, []api.Record{put(9, 500), put(10, 500), tick(11)}},
	{false, []api.Record{put(12, 200)}},
}

func TestThePowerGoesInAnyAct(t *testing.T) { // P17.2: whichever writes are kept; what is opened is what the register tells, and can be gone on with
	total := 0
	for _, s := range life {
		total += s.acts()
	}
	rnd := rand.New(rand.NewSource(1))
	for _, kind := range kinds {
		for n := 1; n <= total+1; n++ {
			for _, keep := range keeps(rnd) {
				v, _ := vaultOf(kind, 100)
				d := disk.New(40)
				m := meter.New(always, d)
				l := opens(t, v, d, m)
				d.Arm(n, keep)
				var list []api.Record
				acts := 0
				for _, s := range life {
					acts += s.acts()
					count := m.Count
					if e := s.do(l); e != api.OK {
						is(t, "the step that the power goes in", e, api.ErrDown)
						if kept := acts == n && keep>>63 == 1; kept != (m.Count > count) {
							t.Fatalf("act %d, %x is kept: %d", n, keep, m.Count)
						}
						if m.Count > count {
							list = s.behind(list)
						}
						break
					}
					list = s.behind(list)
				}
				if d.Down() != (n <= total) || d.Acts() != min(n, total) {
					t.Fatalf("act %d: %d acts", n, d.Acts())
				}
				d.Off(keep)
				d.On()
				opens(t, v, d, m, list...)
				l = opens(t, v, d, m, list...)
				if len(list) == 0 {
					list = []api.Record{tick(0)}
				}
				is(t, "Turn", l.Turn(list...), api.OK)
				is(t, "Commit", l.Commit(tick(13)), api.OK)
				opens(t, v, d, m, append(slices.Clone(list), tick(13))...)
			}
		}
	}
}

func TestThePowerGoesAgain(t *testing.T) { // P17.2: and again, in the calls of each log that is opened
	rnd := rand.New(rand.NewSource(2))
	for round := range 300 {
		v, _ := vaultOf(kinds[round%2], 1000)
		d := disk.New(60)
		m := meter.New(always, d)
		list := []api.Record{tick(0)}
		is(t, "Turn", opens(t, v, d, m).Turn(list...), api.OK)
		for range 12 {
			l := opens(t, v, d, m, list...)
			d.Arm(1+rnd.Intn(14), rnd.Uint64())
			next := step{true, list}
			for { // till the power goes
				count := m.Count
				e := next.do(l)
				if m.Count > count {
					list = next.behind(list)
				}
				if e != api.OK {
					is(t, "the step that the power goes in", e, api.ErrDown)
					break
				}
				next = step{false, []api.Record{put(rnd.Intn(100)+1, rnd.Intn(513))}}
				if l.Left() < 3 {
					next = step{true, list[:1]}
				}
			}
			d.On()
		}
		opens(t, v, d, m, list...)
	}
}

func TestThePowerGoesBetweenCalls(t *testing.T) { // P17.2: all that was OK is there, and a log that told no ErrDown is gone on with
	for _, kind := range kinds {
		for _, keep := range []uint64{0, 1, math.MaxUint64} {
			for steps := range len(life) + 1 {
				v, _ := vaultOf(kind, 100)
				d := disk.New(40)
				m := meter.New(always, d)
				l := opens(t, v, d, m)
				var list []api.Record
				for _, s := range life[:steps] {
					is(t, "step", s.do(l), api.OK)
					list = s.behind(list)
					d.Off(keep)
					d.On()
				}
				opens(t, v, d, m, list...)
			}
		}
	}
}
