package snap_test

import (
	"fmt"
	"math/rand"
	"slices"
	"strings"
	"testing"

	"coffret/api"
	"coffret/seg"
	"coffret/snap"
)

// pick one of numbers.
func pick(rnd *rand.Rand, list ...int) int {
	return list[rnd.Intn(len(list))]
}

// kept: what a register vouches for, in numbers: how often it went on, an epoch, its records, and the sectors that they take.
type kept struct {
	count, epoch int
	list         []api.Record
	sectors      int
}

// paper: the chapters' words, spelt out in numbers, without a disk.
type paper struct {
	half, limit, most int
	kept
	log    bool // whether there is one of which something is promised
	turned bool // whether it may be gone on with
	down   bool
	acts   int
	fuse   int // acts till the power goes; 0: it doesn't
	keep   uint64
}

// act: whether the power stays.
func (p *paper) act() bool {
	p.acts++
	if p.fuse > 0 {
		p.fuse--
		p.down = p.fuse == 0
	}
	return !p.down
}

// off: the power goes, or has gone.
func (p *paper) off() {
	if !p.down {
		p.down, p.fuse = true, 0
	}
}

// writes frames, so many sectors, and goes on to what is kept then.
func (p *paper) writes(sectors int, then kept) api.Errno {
	for range sectors + 1 { // and the Sync
		if !p.act() {
			p.log = false
			return api.ErrDown
		}
	}
	stays := p.act()
	if stays || p.keep>>63 != 0 {
		p.kept = then
	}
	p.log, p.turned = stays, true
	if !stays {
		return api.ErrDown
	}
	return api.OK
}

// framesOf records: how many sectors they take.
func framesOf(list []api.Record) int {
	sum := 0
	for len(list) > 0 {
		n := 1
		for n < len(list) && sizeOf(list[:n+1]) <= 16384 {
			n++
		}
		sum += sectorsOf(sizeOf(list[:n]))
		list = list[n:]
	}
	return sum
}

// turn: what Turn answers.
func (p *paper) turn(list []api.Record) api.Errno {
	sum := framesOf(list)
	switch {
	case p.down:
		p.log = false
		return api.ErrDown
	case !canBe(list):
		return api.ErrArg
	case p.count >= p.most || p.epoch+1 >= 1<<32 || len(list) > p.limit:
		return api.ErrSpent
	case sum > p.half:
		return api.ErrFull
	}
	return p.writes(sum, kept{p.count + 1, p.epoch + 1, slices.Clone(list), sum})
}

// commit: what Commit answers.
func (p *paper) commit(list []api.Record) api.Errno {
	n := sectorsOf(sizeOf(list))
	switch {
	case p.down:
		p.log = false
		return api.ErrDown
	case !canBe(list) || !p.turned:
		return api.ErrArg
	case sizeOf(list) > 16384:
		return api.ErrLong
	case p.count >= p.most || len(p.list)+len(list) > p.limit:
		return api.ErrSpent
	case n > p.half-p.sectors:
		return api.ErrFull
	}
	return p.writes(n, kept{p.count + 1, p.epoch, slices.Concat(p.list, list), p.sectors + n})
}

// save: what Save answers.
func (p *paper) save(state, changes []api.Record) api.Errno {
	e := p.commit(changes)
	switch {
	case e != api.ErrFull && e != api.ErrSpent:
		return e
	case p.most-p.count < 2:
		return api.ErrSpent
	}
	if e = p.turn(state); e != api.OK {
		return e
	}
	return p.commit(changes)
}

// pair: a bench, and the paper that it is held against.
type pair struct {
	rnd *rand.Rand
	*bench
	p paper
}

// newPair of some size.
func newPair(rnd *rand.Rand, kind string, sectors int) *pair {
	limit, most := pick(rnd, 0, 3, 10, 20, 40, 1000, 1000, 1000), pick(rnd, 0, 5, 20, 50, 1000, 1000, 1000, 1000)
	x := &pair{rnd: rnd, bench: newBench(kind, sectors, limit, most), p: paper{half: sectors / 2, limit: limit, most: most}}
	if rnd.Intn(6) == 0 {
		epoch := pick(rnd, 1, 6, 1<<32-6, 1<<32-2, 1<<32-1)
		if x.m.Next(epoch, seg.Start(x.v, epoch)) == api.OK {
			x.p.count, x.p.epoch, x.p.acts = 1, epoch, 1
		}
	}
	return x
}

// anyRecord that can be.
func anyRecord(rnd *rand.Rand) api.Record {
	q, id := 1+rnd.Intn(16), 1+rnd.Intn(100)
	body := strings.Repeat(string(rune(rnd.Intn(128))), pick(rnd, 0, 0, 1, 10, 100, 200, 511, 512))
	switch rnd.Intn(5) {
	case 0:
		return api.Record{Kind: api.RecMake, Queue: q, Id: 1 + rnd.Intn(16), Num: 1 + rnd.Intn(64), Wait: 1 + rnd.Intn(1<<20)}
	case 1:
		return tick(rnd.Intn(1 << 50))
	case 2:
		return api.Record{Kind: api.RecState, Queue: q, Id: id, Num: rnd.Intn(1000), Wait: rnd.Intn(17), Body: body}
	}
	return api.Record{Kind: api.RecPut, Queue: q, Id: id, Body: body}
}

// anyList of records: of few, most often, or of more than a frame has room for; seldom there are none, or one can't be.
func anyList(rnd *rand.Rand) []api.Record {
	list := make([]api.Record, pick(rnd, 1, 1, 1, 1, 1, 2, 2, 3, 5, 10, 25, 30, 60, 260))
	if rnd.Intn(4) > 0 {
		list = list[:min(len(list), 3)]
	}
	for i := range list {
		list[i] = anyRecord(rnd)
	}
	switch rnd.Intn(50) {
	case 0:
		return nil
	case 1:
		list[rnd.Intn(len(list))] = api.Record{}
	}
	return list
}

// opened: what Open answers, of the bench and of the paper.
func (x *pair) opened() (got, want string) {
	k, list, e := snap.Open(x.v, x.d, x.m)
	if (k != nil) != (e == api.OK) {
		return "a keeper beside an error, or none", ""
	}
	if e == api.OK {
		x.k = k
	}
	if x.p.down {
		return fmt.Sprint(list, e), fmt.Sprint([]api.Record{}, api.ErrDown)
	}
	x.p.log, x.p.turned = true, false
	return fmt.Sprint(list, e), fmt.Sprint(x.p.list, api.OK)
}

// loss of the power: it goes, or is to go.
func (x *pair) loss() {
	n, keep := x.rnd.Intn(16), x.rnd.Uint64()
	if x.rnd.Intn(4) == 0 {
		x.d.Off(keep)
		x.p.off()
		return
	}
	x.d.Arm(n, keep)
	x.p.fuse, x.p.keep = n, keep
}

// one call, made up: what it and its paper's answer, and its name.
func (x *pair) one() (got, want, name string) {
	n := x.rnd.Intn(50)
	list, more := anyList(x.rnd), anyList(x.rnd)
	was := slices.Clone(list)
	var e, f api.Errno
	switch {
	case n < 3:
		x.loss()
		return "", "", "a loss of power"
	case n < 5 || n < 30 && x.p.down:
		x.d.On()
		x.p.down = false
		return "", "", "On"
	case n < 6 || !x.p.log:
		got, want = x.opened()
		return got, want, "Open"
	case n < 8 || n < 40 && !x.p.turned:
		name, e, f = "Turn", x.k.Turn(list...), x.p.turn(list)
	case n < 11:
		name, e, f = "Commit", x.k.Commit(list...), x.p.commit(list)
	default:
		name, e, f = "Save", x.k.Save(more, list...), x.p.save(more, list)
	}
	if !slices.Equal(list, was) {
		return "changed records", "", name
	}
	return fmt.Sprint(e), fmt.Sprint(f), name
}

// same: what is to be seen is as on the paper.
func (x *pair) same() string {
	p := x.p
	if p.log && (x.k.Epoch() != p.epoch || x.k.Left() != p.half-p.sectors) {
		return fmt.Sprintf("epoch %d, %d left, not %d, %d", x.k.Epoch(), x.k.Left(), p.epoch, p.half-p.sectors)
	}
	if x.m.Count != p.count || x.m.Epoch != p.epoch || x.d.Acts() != p.acts || x.d.Down() != p.down {
		return fmt.Sprintf("%d times, epoch %d, %d acts, %t, not %d, %d, %d, %t", x.m.Count, x.m.Epoch, x.d.Acts(), x.d.Down(), p.count, p.epoch, p.acts, p.down)
	}
	return ""
}

// run calls, made up, one behind the other; what is there is looked at on the way.
func (x *pair) run(t *testing.T, calls int) {
	t.Helper()
	for i := range calls {
		got, want, name := x.one()
		if got != want {
			t.Fatalf("call %d: %s: %.200s, not %.200s", i, name, got, want)
		}
		if wrong := x.same(); wrong != "" {
			t.Fatalf("call %d: behind %s: %s", i, name, wrong)
		}
		if i%8 == 0 && !x.p.down {
			x.shows(t, x.p.list...)
		}
	}
}

// anySectors of a disk: few, most often.
func anySectors(rnd *rand.Rand) int {
	if rnd.Intn(8) == 0 {
		return 100 + rnd.Intn(200)
	}
	return rnd.Intn(40)
}

func TestAnyCalls(t *testing.T) { // P18.1, P18.2: in every order, with the power going at any time
	for seed := range int64(400) {
		rnd := rand.New(rand.NewSource(seed))
		newPair(rnd, kinds[seed%2], anySectors(rnd)).run(t, 150)
	}
}

func FuzzAnyCalls(f *testing.F) {
	f.Add(int64(1), uint16(9), true)
	f.Add(int64(2), uint16(140), false)
	f.Add(int64(3), uint16(2), true)
	f.Add(int64(4), uint16(40), false)
	f.Fuzz(func(t *testing.T, seed int64, sectors uint16, real bool) {
		kind := "ideal"
		if real {
			kind = "real"
		}
		newPair(rand.New(rand.NewSource(seed)), kind, int(sectors)%300).run(t, 100)
	})
}
