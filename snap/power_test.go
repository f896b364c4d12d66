package snap_test

import (
	"bytes"
	"math"
	"math/rand"
	"slices"
	"testing"

	"coffret/api"
	"coffret/snap"
)

// saving: a Save, behind what is there already, in areas of eight sectors.
type saving struct {
	name           string
	ahead          [][]api.Record // a Turn, and Commits
	state, changes []api.Record
	turns          bool      // whether there is no room for the changes behind what is there
	answer         api.Errno // if the power stays
}

// savings that are commits, that turn, and that are refused behind their Turn.
func savings() []saving {
	full := [][]api.Record{{tick(1)}, {put(2, 500)}, records(4, 256*4)}
	return []saving{
		{"a commit", [][]api.Record{{tick(1)}, {tick(2)}}, []api.Record{tick(3)}, records(3, 700), false, api.OK},
		{"a turn", full, records(2, 600), records(3, 700), true, api.OK},
		{"a turn of which all sectors are taken", full, records(3, 256*5), records(2, 256*3), true, api.OK},
		{"a commit that isn't done behind its turn", full, records(3, 256*5+1), records(2, 256*3), true, api.ErrFull},
	}
}

// acts that records are, as one frame, from the first write to the register's.
func acts(list []api.Record) int {
	return sectorsOf(sizeOf(list)) + 2
}

// total of the acts of a Save.
func (s saving) total() int {
	switch {
	case !s.turns:
		return acts(s.changes)
	case s.answer != api.OK:
		return acts(s.state)
	}
	return acts(s.state) + acts(s.changes)
}

// was there ahead.
func (s saving) was() []api.Record {
	return slices.Concat(s.ahead...)
}

// opened: what is, if so many of its acts, the first ones, are done.
func (s saving) opened(done int) []api.Record {
	switch {
	case done == s.total() && s.answer == api.OK && s.turns:
		return slices.Concat(s.state, s.changes)
	case done == s.total() && s.answer == api.OK:
		return slices.Concat(s.was(), s.changes)
	case s.turns && done >= acts(s.state):
		return s.state
	}
	return s.was()
}

// begin what is there ahead of it.
func (s saving) begin(t *testing.T, kind string) *bench {
	t.Helper()
	x := begun(t, kind, 16, 1000, always, s.ahead[0]...)
	for _, list := range s.ahead[1:] {
		is(t, "Commit", x.k.Commit(list...), api.OK)
	}
	return x
}

// goesOn: a keeper that was opened is begun anew, with the state of what was there, or with what it was begun with last; and it saves.
func (s saving) goesOn(t *testing.T, x *bench, list []api.Record) {
	t.Helper()
	if slices.Equal(list, s.was()) {
		list = s.state
	}
	is(t, "Turn", x.k.Turn(list...), api.OK)
	epoch := x.k.Epoch()
	is(t, "Save", x.k.Save([]api.Record{tick(80)}, tick(81)), api.OK)
	if n := x.v.Clashes(); n != 0 {
		t.Fatalf("%d nonces sealed two texts", n)
	}
	if x.k.Epoch() > epoch {
		list = []api.Record{tick(80)}
	}
	x.opens(t, append(slices.Clone(list), tick(81))...)
}

func TestThePowerGoesInAnyAct(t *testing.T) { // P18.2: whichever of the writes are kept, and of the register's steps
	for _, s := range savings() {
		for i, kind := range kinds {
			for n := 1; n <= s.total()+1; n++ {
				some := min(n, 4*(1+i)) // the writes that may be kept, or not: of a real vault's not all
				for keep := range uint64(1) << some {
					for _, high := range []uint64{0, 1 << 63} {
						x := s.begin(t, kind)
						x.d.Arm(n, keep|high)
						e := x.k.Save(s.state, s.changes...)
						if n > s.total() {
							is(t, s.name, e, s.answer)
							x.shows(t, s.opened(s.total())...)
							continue
						}
						is(t, s.name, e, api.ErrDown)
						x.refuses(t, api.ErrDown)
						x.d.On()
						done := n - 1
						if high != 0 && (n == s.total() || s.turns && n == acts(s.state)) { // the register's step is kept
							done = n
						}
						list := s.opened(done)
						x.opens(t, list...)
						s.goesOn(t, x, list)
					}
				}
			}
		}
	}
}

func TestThePowerGoesBetweenSaves(t *testing.T) { // P18.2: what was OK is there, whichever writes are said to be kept: none is left that isn't safe
	for _, s := range savings() {
		for _, kind := range kinds {
			for _, keep := range []uint64{0, 1, math.MaxUint64} {
				x := s.begin(t, kind)
				x.d.Off(keep)
				is(t, s.name, x.k.Save(s.state, s.changes...), api.ErrDown)
				x.d.On()
				x.opens(t, s.was()...)
				x = s.begin(t, kind)
				is(t, s.name, x.k.Save(s.state, s.changes...), s.answer)
				x.d.Off(keep)
				x.d.On()
				list := s.opened(s.total())
				x.opens(t, list...)
				s.goesOn(t, x, list)
			}
		}
	}
}

// counter: one who counts up by Saves, in records that mean a number each; the state is the last one.
type counter struct {
	*bench
	rnd  *rand.Rand
	size int  // of a state, in bytes; of its records the first one means the number
	n    int  // the last one that was acknowledged
	next bool // whether the next one was asked for, and the power went in it
}

// state of a number.
func (c *counter) state(n int) []api.Record {
	list := records(4, c.size)
	list[0] = api.Record{Kind: api.RecState, Queue: 1, Id: 1, Num: n, Body: list[0].Body}
	return list
}

// changesTo: what makes it a number: two records, of which none is to be seen without the other.
func changesTo(n, body int) []api.Record {
	return []api.Record{tick(n), put(1+n, body)}
}

// meant by records: the state's number, and each one behind it in its turn.
func (c *counter) meant(t *testing.T, list []api.Record) int {
	t.Helper()
	if len(list) < 4 {
		t.Fatalf("%d records", len(list))
	}
	n := list[0].Num
	if !slices.Equal(list[:4], c.state(n)) {
		t.Fatal("another state")
	}
	for both := range slices.Chunk(list[4:], 2) {
		if n++; len(both) < 2 || both[0] != tick(n) || both[1].Id != 1+n {
			t.Fatalf("behind %d: %v", n-1, both)
		}
	}
	return n
}

// opened anew: it is as it was acknowledged, or the next one, if that was asked for.
func (c *counter) opened(t *testing.T) {
	t.Helper()
	c.d.On()
	k, list, e := snap.Open(c.v, c.d, c.m)
	is(t, "Open", e, api.OK)
	n := c.meant(t, list)
	if n != c.n && !(c.next && n == c.n+1) {
		t.Fatalf("%d is there, %d was acknowledged", n, c.n)
	}
	c.k, c.n, c.next = k, n, false
}

// count on till the power goes, or long enough; what is too large is refused on the way.
func (c *counter) count(t *testing.T) {
	t.Helper()
	e, refused := c.k.Turn(c.state(c.n)...), api.ErrFull
	if c.v.Limit() < 4+28 {
		refused = api.ErrSpent
	}
	for e == api.OK && c.rnd.Intn(30) > 0 {
		if c.rnd.Intn(10) == 0 {
			if e = c.k.Save(c.state(c.n), records(28, 256*60)...); e == refused { // no room for it in any area
				e = api.OK
			}
			continue
		}
		if e = c.k.Save(c.state(c.n), changesTo(c.n+1, c.rnd.Intn(300))...); e == api.OK {
			c.n++
			continue
		}
		c.next = true
	}
	if e != api.OK {
		is(t, "the end", e, api.ErrDown)
	}
}

func TestCounting(t *testing.T) { // P18.2: the power goes at any time, again and again; all of a Save, or nothing, is there; and no nonce seals two texts
	for seed := range int64(40) {
		rnd := rand.New(rand.NewSource(seed))
		c := &counter{bench: newBench(kinds[seed%2], 2*(8+rnd.Intn(20)), pick(rnd, 6, 7, 20, 1000), always), rnd: rnd, size: 48 + 4*63 + rnd.Intn(800)}
		c.opens(t)
		is(t, "Turn", c.k.Turn(c.state(0)...), api.OK)
		for range 60 {
			c.opened(t)
			if rnd.Intn(5) > 0 {
				c.d.Arm(1+rnd.Intn(40), rnd.Uint64())
			}
			c.count(t)
			if rnd.Intn(3) == 0 {
				c.d.Off(rnd.Uint64())
			}
			if n := c.v.Clashes(); n != 0 {
				t.Fatalf("%d nonces sealed two texts", n)
			}
		}
		c.opened(t)
		if c.n < 50 {
			t.Fatalf("%d in all", c.n)
		}
	}
}

// counts: whether the byte of a sector is of frames of some lengths, in the first area.
func counts(sector, at int, lengths ...int) bool {
	for _, n := range lengths {
		if sector >= 0 && 256*sector+at < n {
			return true
		}
		sector -= sectorsOf(n)
	}
	return false
}

func TestAnyByteIsTurned(t *testing.T) { // P18.1: behind a Save that turned: ErrTamper, if it counts; else it is as it was
	for _, kind := range kinds {
		s := savings()[1]
		x := s.begin(t, kind)
		is(t, s.name, x.k.Save(s.state, s.changes...), api.OK)
		told, was := 0, x.d.Image()
		for i := range was {
			b := bytes.Clone(was[i/256*256 : i/256*256+256])
			b[i%256] ^= 1 << (i % 8)
			x.d.Forge(i/256, b)
			if counts(i/256, i%256, 600, 700) {
				told++
				x.refuses(t, api.ErrTamper)
			} else {
				x.opens(t, slices.Concat(s.state, s.changes)...)
			}
			x.d.Forge(i/256, was[i/256*256:i/256*256+256])
		}
		if told != 600+700 {
			t.Errorf("%d bytes count", told)
		}
	}
}
