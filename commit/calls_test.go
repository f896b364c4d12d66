package commit_test

import (
	"bytes"
	"fmt"
	"math/rand"
	"slices"
	"testing"

	"coffret/api"
	"coffret/commit"
	"coffret/disk"
	"coffret/ideal"
	"coffret/meter"
	"coffret/seg"
	"coffret/vault"
)

// bench: a log, and the paper that it is held against.
type bench struct {
	rnd    *rand.Rand
	kind   string
	v      *vault.Vault
	w      *ideal.World
	d      *disk.Disk
	power  *disk.Disk // the register's
	m      *meter.Meter
	log    *commit.Log
	images [2][][]byte // elder ones, of the log's disk and of the paper's
	*paper
}

// pick one of numbers.
func pick(rnd *rand.Rand, list ...int) int {
	return list[rnd.Intn(len(list))]
}

// newBench: a disk, a register and a vault of some size, and the same for the paper.
func newBench(rnd *rand.Rand, kind string, sectors int) *bench {
	limit, most := pick(rnd, 0, 3, 10, 40, 1000, 1000, 1000, 1000, 1000, 1000), pick(rnd, 0, 5, 20, 50, 1000, 1000, 1000, 1000, 1000, 1000)
	x := &bench{rnd: rnd, kind: kind, d: disk.New(sectors), paper: newPaper(kind, sectors, most, limit)}
	x.v, x.w = vaultOf(kind, limit)
	x.power = x.d
	switch rnd.Intn(8) {
	case 0:
		x.power, x.paper.power = nil, nil
	case 1:
		x.power, x.paper.power = disk.New(0), disk.New(0)
	}
	x.m, x.paper.m = meter.New(most, x.power), meter.New(most, x.paper.power)
	if rnd.Intn(4) == 0 {
		epoch := pick(rnd, 1, 6, 1<<32-4, 1<<32-3, 1<<32-2, 1<<32-1, 1<<32)
		x.m.Next(epoch, seg.Start(x.v, epoch))
		if x.paper.m.Next(epoch, seg.Start(x.paper.v, epoch)) == api.OK {
			x.state = state{epoch: epoch, head: seg.Start(x.paper.v, epoch)}
		}
	}
	return x
}

// anyRecord that can be.
func anyRecord(rnd *rand.Rand) api.Record {
	q, id := 1+rnd.Intn(16), 1+rnd.Intn(100)
	body := string(bytes.Repeat([]byte{byte(rnd.Intn(256))}, pick(rnd, 0, 0, 1, 10, 100, 200, 511, 512)))
	switch rnd.Intn(6) {
	case 0:
		return api.Record{Kind: api.RecMake, Queue: q, Id: 1 + rnd.Intn(16), Num: 1 + rnd.Intn(64), Wait: 1 + rnd.Intn(1<<20)}
	case 1:
		return api.Record{Kind: api.RecLease, Queue: q, Id: id, Num: 1 + rnd.Intn(1000)}
	case 2:
		return api.Record{Kind: api.RecTick, Num: rnd.Intn(1 << 50)}
	case 3:
		return api.Record{Kind: api.RecState, Queue: q, Id: id, Num: rnd.Intn(1000), Wait: rnd.Intn(17), Body: body}
	}
	return api.Record{Kind: api.RecPut, Queue: q, Id: id, Body: body}
}

// anyList of records: of few, most often, or of more than a frame has room for; seldom there are none, or one can't be.
func anyList(rnd *rand.Rand) []api.Record {
	list := make([]api.Record, pick(rnd, 1, 1, 1, 1, 1, 2, 2, 3, 5, 10, 25, 30, 60, 260))
	if rnd.Intn(3) > 0 {
		list = list[:min(len(list), 3)]
	}
	for i := range list {
		list[i] = anyRecord(rnd)
	}
	switch rnd.Intn(40) {
	case 0:
		return nil
	case 1:
		list[rnd.Intn(len(list))] = api.Record{}
	case 2:
		list[rnd.Intn(len(list))] = api.Record{Kind: api.RecPut, Queue: 1, Id: 1, Body: string(make([]byte, 513))}
	}
	return list
}

// open, and its paper's.
func (x *bench) open() (got, want string) {
	l, list, e := commit.Open(x.v, x.d, x.m)
	if (l != nil) != (e == api.OK) {
		return "a log beside an error, or none", ""
	}
	if e == api.OK {
		x.log = l
	}
	wanted, f := x.paper.open()
	return fmt.Sprint(list, e), fmt.Sprint(wanted, f)
}

// forge a sector: a byte is turned, or it is as it was once, or as it is, or another one's, or anything.
func (x *bench) forge() {
	i, at, mask := x.rnd.Intn(max(x.d.Size(), 1)), x.rnd.Intn(256), byte(1+x.rnd.Intn(255))
	how, elder, other := x.rnd.Intn(6), x.rnd.Intn(max(len(x.images[0]), 1)), x.rnd.Intn(max(x.d.Size(), 1))
	for k, d := range []*disk.Disk{x.d, x.paper.d} {
		if d.Size() == 0 {
			return
		}
		all := d.Image()
		b := bytes.Clone(all[256*i : 256*i+256])
		switch {
		case how < 2:
			b[at] ^= mask
		case how < 4 && len(x.images[k]) > 0:
			b = x.images[k][elder][256*i : 256*i+256]
		case how == 4:
			b = all[256*other : 256*other+256]
		}
		d.Forge(i, b)
	}
}

// lay an elder image of all sectors.
func (x *bench) lay() {
	if len(x.images[0]) == 0 {
		return
	}
	elder := x.rnd.Intn(len(x.images[0]))
	for k, d := range []*disk.Disk{x.d, x.paper.d} {
		for i, b := range slices.Collect(slices.Chunk(x.images[k][elder], 256)) {
			d.Forge(i, b)
		}
	}
}

// loss of the disk's power, or of the register's: it goes, or is to go.
func (x *bench) loss() {
	d, twin, keep := x.d, x.paper.d, x.rnd.Uint64()
	if x.rnd.Intn(3) == 0 {
		d, twin = x.power, x.paper.power
	}
	if x.rnd.Intn(4) == 0 {
		d.Off(keep)
		twin.Off(keep)
		return
	}
	n := x.rnd.Intn(8)
	d.Arm(n, keep)
	twin.Arm(n, keep)
}

// on: the power is back.
func (x *bench) on() {
	for _, d := range []*disk.Disk{x.d, x.power, x.paper.d, x.paper.power} {
		d.On()
	}
}

// one call, made up; what it and its paper's answer, and its name.
func (x *bench) one(forging bool) (got, want, name string) {
	n := x.rnd.Intn(40)
	switch {
	case n < 3 && forging:
		x.forge()
		return "", "", "Forge"
	case n == 3 && forging:
		x.lay()
		return "", "", "an elder image"
	case n < 7:
		x.loss()
		return "", "", "a loss of power"
	case n < 8 || n < 25 && x.down():
		x.on()
		return "", "", "On"
	case n < 10 || !x.paper.log:
		got, want = x.open()
		return got, want, "Open"
	case n < 15 || n < 30 && !x.turned:
		list := anyList(x.rnd)
		was := slices.Clone(list)
		e := x.log.Turn(list...)
		if !slices.Equal(list, was) {
			return "changed records", "", "Turn"
		}
		return fmt.Sprint(e), fmt.Sprint(x.turn(list)), fmt.Sprintf("Turn of %d", len(list))
	}
	list := anyList(x.rnd)
	return fmt.Sprint(x.log.Commit(list...)), fmt.Sprint(x.commit(list)), fmt.Sprintf("Commit of %d", len(list))
}

// same: what is to be seen is as with the paper; the bytes of an ideal vault's things hang on when they were made.
func (x *bench) same() string {
	if x.paper.log && (x.log.Epoch() != x.epoch || x.log.Left() != x.left()) {
		return fmt.Sprintf("epoch %d, %d left, not %d, %d", x.log.Epoch(), x.log.Left(), x.epoch, x.left())
	}
	a, b := x.m.Value, x.paper.m.Value
	switch {
	case x.d.Acts() != x.paper.d.Acts() || x.power.Acts() != x.paper.power.Acts():
		return fmt.Sprintf("%d acts, not %d", x.d.Acts(), x.paper.d.Acts())
	case x.d.Down() != x.paper.d.Down() || x.power.Down() != x.paper.power.Down():
		return "the power"
	case a.Count != b.Count || a.Epoch != b.Epoch || x.kind == "real" && a.Root != b.Root:
		return fmt.Sprintf("%v, not %v", a, b)
	case x.kind == "real" && !bytes.Equal(x.d.Image(), x.paper.d.Image()):
		return "another image"
	}
	return ""
}

// run calls, made up, one behind the other.
func (x *bench) run(t *testing.T, calls int, forging bool) {
	t.Helper()
	for i := range calls {
		got, want, name := x.one(forging)
		if got != want {
			t.Fatalf("call %d: %s: %.200s, not %.200s", i, name, got, want)
		}
		if wrong := x.same(); wrong != "" {
			t.Fatalf("call %d: behind %s: %s", i, name, wrong)
		}
		if i%5 == 0 {
			for k, d := range []*disk.Disk{x.d, x.paper.d} {
				x.images[k] = append(x.images[k], d.Image())
			}
		}
	}
}

// anySectors of a disk: few, most often.
func anySectors(rnd *rand.Rand) int {
	if rnd.Intn(10) == 0 {
		return 100 + rnd.Intn(200)
	}
	return rnd.Intn(40)
}

func TestAnyCalls(t *testing.T) { // P17.1, P17.2: in every order, with the power going at any time
	for seed := range int64(300) {
		rnd := rand.New(rand.NewSource(seed))
		newBench(rnd, kinds[seed%2], anySectors(rnd)).run(t, 150, false)
	}
}

func TestAnyCallsAndForgeries(t *testing.T) { // P17.1, P17.3: the same, while somebody writes; each byte of a frame that counts is asked for
	for seed := range int64(300) {
		rnd := rand.New(rand.NewSource(seed))
		newBench(rnd, kinds[seed%2], anySectors(rnd)).run(t, 150, true)
	}
}

func FuzzAnyCalls(f *testing.F) {
	f.Add(int64(1), uint16(9), true, true)
	f.Add(int64(2), uint16(140), false, true)
	f.Add(int64(3), uint16(2), true, false)
	f.Add(int64(4), uint16(40), false, false)
	f.Fuzz(func(t *testing.T, seed int64, sectors uint16, forging, real bool) {
		kind := "ideal"
		if real {
			kind = "real"
		}
		newBench(rand.New(rand.NewSource(seed)), kind, int(sectors)%300).run(t, 100, forging)
	})
}
