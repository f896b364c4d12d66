package snap_test

import (
	"fmt"
	"slices"
	"strings"
	"testing"

	"coffret/api"
	"coffret/commit"
	"coffret/disk"
	"coffret/ideal"
	"coffret/meter"
	"coffret/record"
	"coffret/seg"
	"coffret/snap"
	"coffret/vault"
)

const always = 1 << 40 // how often a register goes on that is never spent

// kinds of vaults: real and ideal ones.
var kinds = []string{"real", "ideal"}

// vaultOf a kind.
func vaultOf(kind string, limit int) (*vault.Vault, *ideal.World) {
	if kind == "real" {
		return vault.Real(vault.Key{1, 2, 3}, limit), nil
	}
	w := ideal.New()
	return vault.Ideal(w, vault.Key{1, 2, 3}, limit), w
}

// tick: a record that takes 63 bytes of a frame.
func tick(n int) api.Record {
	return api.Record{Kind: api.RecTick, Num: n}
}

// put: a record that takes 63 bytes of a frame, and a body's.
func put(id, body int) api.Record {
	return api.Record{Kind: api.RecPut, Queue: 1 + id%16, Id: id, Body: strings.Repeat("b", body)}
}

// sizeOf the frame of records.
func sizeOf(list []api.Record) int {
	n := 48
	for _, r := range list {
		n += 63 + len(r.Body)
	}
	return n
}

// records, so many, whose one frame has so many bytes.
func records(n, size int) []api.Record {
	list := make([]api.Record, n)
	left := size - 48 - 63*n
	for i := range list {
		body := left / (n - i)
		list[i] = put(i+1, body)
		left -= body
	}
	return list
}

// sectorsOf so many bytes.
func sectorsOf(n int) int {
	return (n + 255) / 256
}

// canBe: whether there are records, and all of them can be.
func canBe(list []api.Record) bool {
	return len(list) > 0 && !slices.ContainsFunc(list, func(r api.Record) bool { return !record.Good(r) })
}

// is: an error is the one that is wanted.
func is(t *testing.T, what string, e, want api.Errno) {
	t.Helper()
	if e != want {
		t.Fatalf("%s: %d, not %d", what, e, want)
	}
}

// bench: a keeper, and what it stands on.
type bench struct {
	v *vault.Vault
	w *ideal.World
	d *disk.Disk
	m *meter.Meter
	k *snap.Keeper
}

// newBench: nothing is kept, and no keeper is open yet.
func newBench(kind string, sectors, limit, most int) *bench {
	x := &bench{d: disk.New(sectors)}
	x.v, x.w = vaultOf(kind, limit)
	x.m = meter.New(most, x.d)
	return x
}

// begun: a keeper whose epoch 1 begins with records.
func begun(t *testing.T, kind string, sectors, limit, most int, list ...api.Record) *bench {
	t.Helper()
	x := newBench(kind, sectors, limit, most)
	x.opens(t)
	is(t, "Turn", x.k.Turn(list...), api.OK)
	return x
}

// opens a keeper anew, of just these records.
func (x *bench) opens(t *testing.T, want ...api.Record) {
	t.Helper()
	if list := x.there(t); x.k == nil || !slices.Equal(list, want) {
		t.Fatalf("Open: %d records, not %d", len(list), len(want))
	}
}

// there: the records that are, of a keeper that is opened anew.
func (x *bench) there(t *testing.T) []api.Record {
	t.Helper()
	k, list, e := snap.Open(x.v, x.d, x.m)
	is(t, "Open", e, api.OK)
	x.k = k
	return list
}

// refuses: Open tells an error, and nothing else.
func (x *bench) refuses(t *testing.T, want api.Errno) {
	t.Helper()
	if k, list, e := snap.Open(x.v, x.d, x.m); k != nil || len(list) != 0 || e != want {
		t.Fatalf("Open: %v, %d records, %d, not %d", k, len(list), e, want)
	}
}

// shows: what is opened of a copy of the disk is just these records; the keeper that is open stays the disk's last one.
func (x *bench) shows(t *testing.T, want ...api.Record) {
	t.Helper()
	again := *x
	again.d = disk.New(x.d.Size())
	lay(again.d, x.d.Image())
	again.opens(t, want...)
}

// lay an image, all its sectors, for good.
func lay(d *disk.Disk, image []byte) {
	i := 0
	for b := range slices.Chunk(image, 256) {
		d.Forge(i, b)
		i++
	}
}

// stands: the keeper is of an epoch, so many sectors are left, and the register went on so often.
func (x *bench) stands(t *testing.T, epoch, left, count int) {
	t.Helper()
	if x.k.Epoch() != epoch || x.k.Left() != left || x.m.Count != count || x.m.Epoch != epoch {
		t.Fatalf("epoch %d (the register's %d), %d left, count %d, not %d, %d, %d", x.k.Epoch(), x.m.Epoch, x.k.Left(), x.m.Count, epoch, left, count)
	}
}

// seen: all that is to be seen of a bench.
func (x *bench) seen() string {
	return fmt.Sprint(x.m.Value, x.m.Left(), x.d.Acts(), x.d.Down(), x.w.Size(), x.k.Epoch(), x.k.Left(), " ") + string(x.d.Image())
}

func TestRecords(t *testing.T) { // what the tests lean on
	for n := 1; n < 40; n++ {
		for _, size := range []int{48 + 63*n, 48 + 63*n + 1, 48 + 200*n + n/2, 48 + (63+512)*n} {
			if list := records(n, size); sizeOf(list) != size || seg.Size(list...) != size || !canBe(list) {
				t.Fatalf("%d records of %d bytes, not %d", n, seg.Size(list...), size)
			}
		}
	}
}

func TestTheFourthOneTurns(t *testing.T) { // P18.1: the chapter's example
	for _, kind := range kinds {
		x := begun(t, kind, 8, 1000, always, tick(0))
		x.stands(t, 1, 3, 1)
		for n := 1; n <= 3; n++ {
			is(t, "Save", x.k.Save([]api.Record{tick(90)}, tick(n)), api.OK)
			x.stands(t, 1, 3-n, 1+n)
		}
		x.shows(t, tick(0), tick(1), tick(2), tick(3))
		is(t, "Save", x.k.Save([]api.Record{tick(91)}, tick(4)), api.OK)
		x.stands(t, 2, 2, 6)
		x.shows(t, tick(91), tick(4))
		is(t, "Save", x.k.Save([]api.Record{tick(92)}, tick(5), tick(6)), api.OK)
		x.stands(t, 2, 1, 7)
		x.opens(t, tick(91), tick(4), tick(5), tick(6))
	}
}

func TestOpen(t *testing.T) { // P18.1: layer 17's, and its errors; a keeper that is opened can't be gone on with ahead of a Turn
	for _, kind := range kinds {
		x := newBench(kind, 20, 1000, always)
		x.opens(t)
		x.stands(t, 0, 10, 0)
		for _, state := range [][]api.Record{nil, {tick(1)}} {
			was := x.seen()
			is(t, "Save ahead of a Turn", x.k.Save(state, tick(2)), api.ErrArg)
			if x.seen() != was {
				t.Fatal("something is changed")
			}
		}
		is(t, "Turn", x.k.Turn(tick(1)), api.OK)
		is(t, "Save", x.k.Save(nil, put(2, 300)), api.OK)
		x.opens(t, tick(1), put(2, 300))
		x.stands(t, 1, 7, 2)
		is(t, "Save ahead of a Turn", x.k.Save([]api.Record{tick(1)}, tick(2)), api.ErrArg)
		is(t, "Save that there is no room for", x.k.Save([]api.Record{tick(1)}, records(10, 256*9)...), api.ErrArg)
		x.opens(t, tick(1), put(2, 300))
		image := x.d.Image()
		x.d.Off(0)
		x.refuses(t, api.ErrDown)
		x.d.Forge(11, []byte("somebody"))
		x.refuses(t, api.ErrDown)
		x.d.On()
		x.refuses(t, api.ErrTamper)
		lay(x.d, image)
		x.opens(t, tick(1), put(2, 300))
		x.d.Forge(0, []byte("somebody"))
		x.opens(t, tick(1), put(2, 300))
	}
}

func TestNothingAtAll(t *testing.T) { // P18.1: nil things, and their order with the power
	for i := range 8 {
		for _, off := range []bool{false, true} {
			x := newBench("real", 9, 100, 100)
			if off {
				x.d.Off(0)
			}
			if i&1 != 0 {
				x.v = nil
			}
			if i&2 != 0 {
				x.d = nil
			}
			if i&4 != 0 {
				x.m = nil
			}
			switch {
			case i > 0:
				x.refuses(t, api.ErrNil)
			case off:
				x.refuses(t, api.ErrDown)
			default:
				x.opens(t)
			}
		}
	}
	var none *snap.Keeper
	for _, state := range [][]api.Record{nil, {tick(1)}, {tick(-1)}} {
		for _, changes := range [][]api.Record{nil, {tick(1)}, {tick(-1)}, records(260, 48+63*260)} {
			is(t, "Save of no keeper", none.Save(state, changes...), api.ErrNil)
		}
	}
}

func TestTheLogsCalls(t *testing.T) { // P18.1: they are the keeper's, and of the same log, in any order with Save
	for _, kind := range kinds {
		x := begun(t, kind, 8, 1000, always, tick(0))
		var calls interface {
			Turn(list ...api.Record) api.Errno
			Commit(list ...api.Record) api.Errno
			Epoch() int
			Left() int
		} = x.k
		var log *commit.Log = x.k.Log
		is(t, "Commit", calls.Commit(tick(1)), api.OK)
		is(t, "Save", x.k.Save(nil, tick(2)), api.OK)
		is(t, "Commit", log.Commit(tick(3)), api.OK)
		is(t, "Commit", calls.Commit(tick(4)), api.ErrFull)
		x.shows(t, tick(0), tick(1), tick(2), tick(3))
		is(t, "Turn", calls.Turn(tick(5), tick(6)), api.OK)
		is(t, "Save", x.k.Save(nil, tick(7)), api.OK)
		x.stands(t, 2, 2, 6)
		is(t, "Turn", log.Turn(tick(8)), api.OK)
		is(t, "Save", x.k.Save(nil, records(3, 3*256)...), api.OK)
		is(t, "Save", x.k.Save([]api.Record{tick(9)}, tick(10)), api.OK)
		is(t, "Commit", calls.Commit(tick(11)), api.OK)
		x.stands(t, 4, 1, 11)
		if calls.Epoch() != 4 || log.Epoch() != 4 || calls.Left() != 1 || log.Left() != 1 {
			t.Fatal("another log")
		}
		x.opens(t, tick(9), tick(10), tick(11))
	}
}

func TestAStateThatIsntNeeded(t *testing.T) { // P18.1: where there is room nobody asks for it
	for _, kind := range kinds {
		for _, state := range [][]api.Record{nil, {}, {tick(-1)}, {tick(5), {}}, records(30, 17000), slices.Repeat([]api.Record{tick(1)}, 1001)} {
			x := begun(t, kind, 40, 1000, 2, tick(0))
			is(t, "Save", x.k.Save(state, tick(1), tick(2)), api.OK)
			x.stands(t, 1, 18, 2)
			x.opens(t, tick(0), tick(1), tick(2))
		}
	}
}

// What may be wrong with a Save, one bit a thing, and the errors that these are told by, in their order: of the first Commit, of the Turn, and of the second Commit.
const (
	wrongPower = iota
	wrongNoChanges
	wrongChange
	wrongNoTurn
	wrongLong
	wrongSpent
	wrongOnce
	wrongNoState
	wrongState
	wrongEpoch
	wrongNumbersOfState
	wrongRoomOfState
	wrongNumbersBehind
	wrongRoomBehind
	fullNumbers // these two, and wrongSpent, are why it turns
	fullRoom
	wrongEnd
)

var saveErrors = []api.Errno{api.ErrDown, api.ErrArg, api.ErrArg, api.ErrArg, api.ErrLong, api.ErrSpent, api.ErrSpent, api.ErrArg, api.ErrArg, api.ErrSpent, api.ErrSpent, api.ErrFull, api.ErrSpent, api.ErrFull}

// wrongs of a Save: a set of them.
type wrongs int

// has: whether it is among them.
func (w wrongs) has(bit int) bool {
	return w>>bit&1 != 0
}

// pick the one number, if it is among them, or the other.
func (w wrongs) pick(bit, yes, no int) int {
	if w.has(bit) {
		return yes
	}
	return no
}

// turns: whether the first Commit is refused for want of room.
func (w wrongs) turns() bool {
	return w.has(wrongSpent) || w.has(fullNumbers) || w.has(fullRoom)
}

// first one of them, that is told; wrongEnd: none.
func (w wrongs) first() int {
	for i := range saveErrors {
		if w.has(i) && (i <= wrongLong || w.turns()) {
			return i
		}
	}
	return wrongEnd
}

// bench that these are wrong with: of 64 sectors an area, and 40 numbers, of which one and two are left, or not; and what was there.
func (w wrongs) bench(t *testing.T, kind string) (*bench, []api.Record) {
	t.Helper()
	x := newBench(kind, 128, 40, 2+w.pick(wrongSpent, 0, w.pick(wrongOnce, 1, 2)))
	epoch := w.pick(wrongEpoch, 1<<32-2, 1<<32-3)
	is(t, "Next", x.m.Next(epoch, seg.Start(x.v, epoch)), api.OK)
	x.opens(t)
	was := records(w.pick(fullNumbers, 39, 38), 256*w.pick(fullRoom, 64, 63))
	is(t, "Turn", x.k.Turn(was...), api.OK)
	if w.has(wrongNoTurn) {
		x.opens(t, was...)
	}
	return x, was
}

// lists that these are wrong with: a state, and changes.
func (w wrongs) lists() (state, changes []api.Record) {
	state = records(w.pick(wrongNumbersOfState, 41, w.pick(wrongNumbersBehind, 39, 38)), w.pick(wrongRoomOfState, 256*64+1, 256*w.pick(wrongRoomBehind, 64, 63)))
	changes = slices.Repeat([]api.Record{tick(7)}, w.pick(wrongLong, 260, 2))
	if w.has(wrongState) {
		state[len(state)-1].Wait = 1
	}
	if w.has(wrongNoState) {
		state = nil
	}
	if w.has(wrongChange) {
		changes[len(changes)-1].Wait = 1
	}
	if w.has(wrongNoChanges) {
		changes = nil
	}
	return state, changes
}

func TestOrderOfErrors(t *testing.T) { // P18.1: all things that may be wrong, in any set; what is refused ahead of the Turn changes nothing, and behind it the state is there
	for w := range wrongs(1 << wrongEnd) {
		kind := kinds[1]
		if w%61 == 0 {
			kind = kinds[0]
		}
		first := w.first()
		if first <= wrongLong && w>>(wrongLong+1)%61 != 0 { // of these not each one
			continue
		}
		x, was := w.bench(t, kind)
		epoch := x.m.Epoch
		state, changes := w.lists()
		if w.has(wrongPower) {
			x.d.Off(0)
		}
		seen := x.seen()
		e := x.k.Save(state, changes...)
		switch {
		case first == wrongEnd && !w.turns():
			is(t, fmt.Sprintf("Save of what %b is wrong with", w), e, api.OK)
			x.stands(t, epoch, 0, 3)
			x.shows(t, slices.Concat(was, changes)...)
		case first == wrongEnd:
			is(t, fmt.Sprintf("Save of what %b is wrong with", w), e, api.OK)
			x.stands(t, epoch+1, 0, 4)
			x.shows(t, slices.Concat(state, changes)...)
		default:
			is(t, fmt.Sprintf("Save of what %b is wrong with", w), e, saveErrors[first])
			if first >= wrongNumbersBehind {
				x.stands(t, epoch+1, w.pick(wrongRoomBehind, 0, 1), 3)
				x.shows(t, state...)
				continue
			}
			if x.seen() != seen {
				t.Fatalf("Save of what %b is wrong with: something is changed", w)
			}
			x.d.On()
			x.shows(t, was...)
		}
	}
}

func TestARegisterNearItsEnd(t *testing.T) { // P18.1: with one step left a Commit is done, and nothing is begun; with two a new epoch is
	for _, kind := range kinds {
		for left := range 4 {
			x := begun(t, kind, 4, 100, 2+left, tick(0)) // of two sectors an area
			is(t, "Save", x.k.Save(nil, tick(1)), api.OK)
			seen := x.seen()
			if left < 2 {
				is(t, "Save", x.k.Save([]api.Record{tick(2)}, tick(3)), api.ErrSpent)
				is(t, "Save of no state", x.k.Save(nil, tick(3)), api.ErrSpent)
				is(t, "Save of what has no room at all", x.k.Save([]api.Record{tick(2)}, records(1, 600)...), api.ErrSpent)
				if x.seen() != seen {
					t.Fatal("something is changed")
				}
				x.opens(t, tick(0), tick(1))
				continue
			}
			is(t, "Save", x.k.Save([]api.Record{tick(2)}, tick(3)), api.OK)
			x.stands(t, 2, 0, 4)
			is(t, "Save", x.k.Save([]api.Record{tick(4)}, tick(5)), api.ErrSpent)
			x.opens(t, tick(2), tick(3))
		}
	}
}

func TestARegisterIsGoneOnWithToItsEnd(t *testing.T) { // P18.1: with room enough, of each step of it
	for _, kind := range kinds {
		x := begun(t, kind, 40, 100, 5, tick(0))
		for n := range 4 {
			is(t, "Save", x.k.Save([]api.Record{tick(9)}, tick(n)), api.OK)
		}
		x.stands(t, 1, 15, 5)
		is(t, "Save", x.k.Save([]api.Record{tick(9)}, tick(5)), api.ErrSpent)
		is(t, "Save", x.k.Save([]api.Record{tick(9)}), api.ErrArg)
		is(t, "Save", x.k.Save([]api.Record{tick(9)}, records(260, 48+63*260)...), api.ErrLong)
		x.opens(t, tick(0), tick(0), tick(1), tick(2), tick(3))
	}
}

func TestASaveThatIsRefusedBehindItsTurn(t *testing.T) { // P18.1: the new epoch has begun, and can be gone on with
	for _, kind := range kinds {
		x := begun(t, kind, 8, 100, always, tick(0))
		is(t, "Save", x.k.Save([]api.Record{put(1, 512)}, records(2, 2*256+1)...), api.OK)
		x.stands(t, 1, 0, 2)
		is(t, "Save", x.k.Save([]api.Record{put(1, 512)}, records(2, 256+1)...), api.ErrFull)
		x.stands(t, 2, 1, 3)
		x.shows(t, put(1, 512))
		is(t, "Save", x.k.Save(nil, tick(3)), api.OK)
		x.stands(t, 2, 0, 4)
		is(t, "Save", x.k.Save([]api.Record{put(2, 512), tick(4)}, records(2, 256+1)...), api.ErrFull)
		x.stands(t, 3, 1, 5)
		is(t, "Save of what has no room in any area", x.k.Save([]api.Record{tick(5)}, records(2, 4*256+1)...), api.ErrFull)
		x.stands(t, 4, 3, 6)
		is(t, "Save of a state that has none", x.k.Save(records(2, 4*256+1), records(2, 3*256+1)...), api.ErrFull)
		x.stands(t, 4, 3, 6)
		is(t, "Save", x.k.Save(nil, records(2, 3*256)...), api.OK)
		x.opens(t, append([]api.Record{tick(5)}, records(2, 3*256)...)...)
	}
}

func TestWhosePowerItIs(t *testing.T) { // P18.1, P18.2: the disk's, or the register's, which may have another one, or none
	for _, keep := range []uint64{0, 1 << 63} {
		for n := 1; n <= 2; n++ { // in the step of the Turn, or of the Commit
			x, other := newBench("real", 4, 100, always), disk.New(0)
			x.m = meter.New(always, other)
			x.opens(t)
			is(t, "Turn", x.k.Turn(tick(0)), api.OK)
			is(t, "Save", x.k.Save(nil, tick(1)), api.OK)
			other.Arm(n, keep)
			is(t, "Save", x.k.Save([]api.Record{tick(2)}, tick(3)), api.ErrDown)
			if x.d.Down() || !other.Down() {
				t.Fatal("another power")
			}
			x.refuses(t, api.ErrDown)
			is(t, "Save", x.k.Save([]api.Record{tick(2)}, tick(3)), api.ErrDown)
			other.On()
			switch {
			case n == 1 && keep == 0:
				x.opens(t, tick(0), tick(1))
			case n == 2 && keep != 0:
				x.opens(t, tick(2), tick(3))
			default:
				x.opens(t, tick(2))
			}
		}
	}
	x := newBench("real", 4, 100, always)
	x.m = meter.New(always, nil)
	x.opens(t)
	is(t, "Turn", x.k.Turn(tick(0)), api.OK)
	is(t, "Save", x.k.Save(nil, tick(1)), api.OK)
	x.d.Off(0)
	is(t, "Save", x.k.Save([]api.Record{tick(2)}, tick(3)), api.ErrDown)
	x.d.On()
	x.opens(t, tick(0), tick(1))
}

func TestASaveIsTheLogsCalls(t *testing.T) { // P18.1: the same sectors, the same register, and no call more
	for left := range 5 {
		x := begun(t, "real", 40, 12, 2+left, tick(0))
		y := begun(t, "real", 40, 12, 2+left, tick(0))
		state := records(3, 900)
		for _, changes := range [][]api.Record{{tick(1)}, records(3, 256*5), {tick(-1)}, {tick(2), tick(3)}, records(5, 256*4), records(6, 256*13), records(8, 256*18), records(10, 256*12), {tick(4)}} {
			got, want := x.k.Save(state, changes...), y.k.Commit(changes...)
			if want == api.ErrFull || want == api.ErrSpent {
				want = api.ErrSpent
				if y.m.Left() > 1 {
					if want = y.k.Turn(state...); want == api.OK {
						want = y.k.Commit(changes...)
					}
				}
			}
			is(t, "Save", got, want)
			if x.seen() != y.seen() {
				t.Fatal("something else is changed")
			}
		}
	}
}
