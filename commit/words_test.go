package commit_test

import (
	"bytes"
	"fmt"
	"math"
	"slices"
	"strings"
	"testing"

	"coffret/api"
	"coffret/commit"
	"coffret/disk"
	"coffret/ideal"
	"coffret/meter"
	"coffret/record"
	"coffret/seg"
	"coffret/vault"
)

const always = 1 << 40 // how often a register goes on that is never spent

// kinds of vaults: real and ideal ones.
var kinds = []string{"real", "ideal"}

// vaultOf a kind, and its world, if it has one.
func vaultOf(kind string, limit int) (*vault.Vault, *ideal.World) {
	if kind == "real" {
		return vault.Real(vault.Key{1, 2, 3}, limit), nil
	}
	w := ideal.New()
	return vault.Ideal(w, vault.Key{1, 2, 3}, limit), w
}

// state: what a register vouches for: an epoch, its frames' bytes, their records, and the head behind them.
type state struct {
	epoch  int
	frames [][]byte
	list   []api.Record
	head   [32]byte
}

// sectorsOf so many bytes.
func sectorsOf(n int) int {
	return (n + 255) / 256
}

// sectors that the frames take.
func (s state) sectors() int {
	sum := 0
	for _, f := range s.frames {
		sum += sectorsOf(len(f))
	}
	return sum
}

// sizeOf the frame of records.
func sizeOf(list []api.Record) int {
	n := 48
	for _, r := range list {
		n += 63 + len(r.Body)
	}
	return n
}

// cut into lists, each with as many records as a frame of 16384 bytes has room for.
func cut(list []api.Record) [][]api.Record {
	var lists [][]api.Record
	for from := 0; from < len(list); {
		to := from + 1
		for to < len(list) && sizeOf(list[from:to+1]) <= 16384 {
			to++
		}
		lists = append(lists, list[from:to])
		from = to
	}
	return lists
}

// canBe: whether there are records, and all of them can be.
func canBe(list []api.Record) bool {
	return len(list) > 0 && !slices.ContainsFunc(list, func(r api.Record) bool { return !record.Good(r) })
}

// paper: the chapter's words, spelt out over a disk, a register and a vault of its own.
type paper struct {
	v      *vault.Vault
	d      *disk.Disk
	power  *disk.Disk // the register's
	m      *meter.Meter
	most   int
	limit  int
	state       // what the register vouches for
	log    bool // whether there is a log of which something is promised
	turned bool // whether it may be gone on with
}

// newPaper: nothing is kept yet.
func newPaper(kind string, sectors, most, limit int) *paper {
	v, _ := vaultOf(kind, limit)
	d := disk.New(sectors)
	return &paper{v: v, d: d, power: d, m: meter.New(most, d), most: most, limit: limit}
}

// left: how many sectors are.
func (p *paper) left() int {
	return p.d.Size()/2 - p.sectors()
}

// first sector of an epoch's area.
func (p *paper) first(epoch int) int {
	return epoch % 2 * (p.d.Size() / 2)
}

// down: whether the power is off.
func (p *paper) down() bool {
	return p.d.Down() || p.power.Down()
}

// stands: whether each byte of the frames that count is as it was.
func (p *paper) stands() bool {
	b := p.d.Image()[256*p.first(p.epoch):]
	for _, f := range p.frames {
		if !bytes.Equal(b[:len(f)], f) {
			return false
		}
		b = b[256*sectorsOf(len(f)):]
	}
	return true
}

// open: what Open answers.
func (p *paper) open() ([]api.Record, api.Errno) {
	switch {
	case p.down():
		p.log = false
		return nil, api.ErrDown
	case !p.stands():
		return nil, api.ErrTamper
	}
	p.log, p.turned = true, false
	return p.list, api.OK
}

// turn: what Turn answers.
func (p *paper) turn(list []api.Record) api.Errno {
	switch {
	case p.down():
		p.log = false
		return api.ErrDown
	case !canBe(list):
		return api.ErrArg
	case p.m.Count >= p.most || p.epoch+1 >= 1<<32 || len(list) > p.limit:
		return api.ErrSpent
	}
	lists := cut(list)
	sum := 0
	for _, l := range lists {
		sum += sectorsOf(sizeOf(l))
	}
	if sum > p.d.Size()/2 {
		return api.ErrFull
	}
	return p.writes(state{epoch: p.epoch + 1, head: seg.Start(p.v, p.epoch+1)}, lists)
}

// commit: what Commit answers.
func (p *paper) commit(list []api.Record) api.Errno {
	switch {
	case p.down():
		p.log = false
		return api.ErrDown
	case !canBe(list) || !p.turned:
		return api.ErrArg
	case sizeOf(list) > 16384:
		return api.ErrLong
	case p.m.Count >= p.most || len(p.list)+len(list) > p.limit:
		return api.ErrSpent
	case sectorsOf(sizeOf(list)) > p.left():
		return api.ErrFull
	}
	return p.writes(p.state, [][]api.Record{list})
}

// writes the frames of lists behind those of s, and goes on to that.
func (p *paper) writes(s state, lists [][]api.Record) api.Errno {
	at := p.first(s.epoch) + s.sectors()
	s.frames, s.list = slices.Clone(s.frames), slices.Clone(s.list)
	for _, list := range lists {
		b, head, e := seg.Pack(p.v, s.epoch, len(s.list), s.head, list...)
		if e != api.OK {
			panic(fmt.Sprint("Pack: ", e))
		}
		s.frames, s.list, s.head = append(s.frames, b), append(s.list, list...), head
		for some := range slices.Chunk(b, 256) {
			if p.d.Write(at, some) != api.OK {
				p.log = false
				return api.ErrDown
			}
			at++
		}
	}
	if p.d.Sync() != api.OK {
		p.log = false
		return api.ErrDown
	}
	count := p.m.Count
	e := p.m.Next(s.epoch, s.head)
	if p.m.Count > count {
		p.state = s
	}
	p.log, p.turned = e == api.OK, true
	return e
}

// is: an error is the one that is wanted.
func is(t *testing.T, what string, e, want api.Errno) {
	t.Helper()
	if e != want {
		t.Fatalf("%s: %d, not %d", what, e, want)
	}
}

// tick: a record of 99 bytes.
func tick(n int) api.Record {
	return api.Record{Kind: api.RecTick, Num: n}
}

// put: a record of 99 bytes and a body's.
func put(id, body int) api.Record {
	return api.Record{Kind: api.RecPut, Queue: 1 + id%16, Id: id, Body: strings.Repeat("b", body)}
}

// filled: records whose frame has so many bytes, from 111 on.
func filled(size int) []api.Record {
	var list []api.Record
	for left := size - 48; left > 0; {
		n := min(left, 63+512)
		if left-n > 0 && left-n < 63 {
			n -= 63
		}
		list = append(list, put(len(list)+1, n-63))
		left -= n
	}
	return list
}

// opens: a log, of just these records.
func opens(t *testing.T, v *vault.Vault, d *disk.Disk, m *meter.Meter, want ...api.Record) *commit.Log {
	t.Helper()
	l, list, e := commit.Open(v, d, m)
	if e != api.OK || l == nil || !slices.Equal(list, want) {
		t.Fatalf("Open: %d records, %d, not %d", len(list), e, len(want))
	}
	return l
}

// opened: the records that are.
func opened(t *testing.T, v *vault.Vault, d *disk.Disk, m *meter.Meter) []api.Record {
	t.Helper()
	_, list, e := commit.Open(v, d, m)
	is(t, "Open", e, api.OK)
	return list
}

// shows: what is opened of a copy of the disk is just these records; the log that is open stays the disk's last one.
func shows(t *testing.T, v *vault.Vault, d *disk.Disk, m *meter.Meter, want ...api.Record) {
	t.Helper()
	again, image := disk.New(d.Size()), d.Image()
	for i := range d.Size() {
		again.Forge(i, image[256*i:256*i+256])
	}
	opens(t, v, again, m, want...)
}

// refuses: Open tells an error, and nothing else.
func refuses(t *testing.T, v *vault.Vault, d *disk.Disk, m *meter.Meter, want api.Errno) {
	t.Helper()
	if l, list, e := commit.Open(v, d, m); l != nil || len(list) != 0 || e != want {
		t.Fatalf("Open: %v, %d records, %d, not %d", l, len(list), e, want)
	}
}

// stands: a log is of an epoch, and so many sectors are left.
func stands(t *testing.T, l *commit.Log, epoch, left int) {
	t.Helper()
	if l.Epoch() != epoch || l.Left() != left {
		t.Fatalf("epoch %d, %d left, not %d, %d", l.Epoch(), l.Left(), epoch, left)
	}
}

// padded: bytes, and noughts up to the next sector.
func padded(b []byte) []byte {
	return append(bytes.Clone(b), make([]byte, (256-len(b)%256)%256)...)
}

func TestFilled(t *testing.T) { // what the tests lean on
	for n := 111; n < 17000; n++ {
		if list := filled(n); sizeOf(list) != n || seg.Size(list...) != n || !canBe(list) {
			t.Fatalf("%d bytes, not %d", sizeOf(list), n)
		}
		if n > 112 && n < 16000 {
			n += 100
		}
	}
}

func TestNewRegister(t *testing.T) { // P17.1: the chapter's example
	for _, kind := range kinds {
		v, _ := vaultOf(kind, 100)
		d := disk.New(9)
		m := meter.New(100, d)
		l := opens(t, v, d, m)
		stands(t, l, 0, 4)
		is(t, "Turn", l.Turn(tick(1)), api.OK)
		stands(t, l, 1, 3)
		if m.Count != 1 || m.Epoch != 1 || d.Acts() != 3 {
			t.Errorf("count %d, epoch %d, %d acts", m.Count, m.Epoch, d.Acts())
		}
		opens(t, v, d, m, tick(1))
	}
}

// chained: the bytes of an area that begins with the frames of lists, and the head behind them.
func chained(t *testing.T, epoch, sectors int, lists ...[]api.Record) ([]byte, [32]byte) {
	t.Helper()
	v, _ := vaultOf("real", 1000)
	var all []byte
	seq, at := 0, v.Hash([]byte("\x05\x00\x00epoch"), []byte{byte(epoch), 0, 0, 0, 0, 0, 0, 0})
	for _, list := range lists {
		b, to, e := seg.Pack(v, epoch, seq, at, list...)
		is(t, "Pack", e, api.OK)
		all, at, seq = append(all, padded(b)...), to, seq+len(list)
	}
	return append(all, make([]byte, sectors*256-len(all))...), at
}

func TestWhatStandsOnTheDisk(t *testing.T) { // P17.1: frames from the area's first sector on, chained and numbered; the register has the head
	v, _ := vaultOf("real", 1000)
	d := disk.New(201)
	m := meter.New(100, d)
	l := opens(t, v, d, m)
	long, two, three, four := filled(20000), filled(300), filled(256), []api.Record{tick(5), put(3, 7)}
	lists := append(cut(long), two, three, four)
	if len(lists) != 5 {
		t.Fatalf("%d frames", len(lists))
	}
	is(t, "Turn", l.Turn(long...), api.OK)
	stands(t, l, 1, 100-64-16)
	is(t, "Commit", l.Commit(two...), api.OK)
	is(t, "Commit", l.Commit(three...), api.OK)
	is(t, "Commit", l.Commit(four...), api.OK)
	stands(t, l, 1, 100-64-16-2-1-1)
	odd, head := chained(t, 1, 100, lists...)
	if want := (meter.Value{Count: 4, Epoch: 1, Root: head}); m.Value != want {
		t.Errorf("%v, not %v", m.Value, want)
	}
	if want := slices.Concat(make([]byte, 25600), odd, make([]byte, 256)); !bytes.Equal(d.Image(), want) {
		t.Error("other sectors in the epoch 1")
	}
	all := slices.Concat(lists...)
	l = opens(t, v, d, m, all...)
	stands(t, l, 1, 100-64-16-2-1-1)
	is(t, "Turn", l.Turn(four...), api.OK)
	is(t, "Commit", l.Commit(three...), api.OK)
	even, head := chained(t, 2, 100, four, three)
	if want := (meter.Value{Count: 6, Epoch: 2, Root: head}); m.Value != want {
		t.Errorf("%v, not %v", m.Value, want)
	}
	if want := slices.Concat(even, odd, make([]byte, 256)); !bytes.Equal(d.Image(), want) {
		t.Error("other sectors in the epoch 2")
	}
	is(t, "Turn", l.Turn(two...), api.OK) // over the elder frames of the epoch 1, of which the most stay
	is(t, "Commit", l.Commit(four...), api.OK)
	newer, head := chained(t, 3, 3, two, four)
	if want := (meter.Value{Count: 8, Epoch: 3, Root: head}); m.Value != want {
		t.Errorf("%v, not %v", m.Value, want)
	}
	if want := slices.Concat(even, newer, odd[3*256:], make([]byte, 256)); !bytes.Equal(d.Image(), want) {
		t.Error("other sectors in the epoch 3")
	}
	opens(t, v, d, m, append(two, four...)...)
}

func TestAnOpenedLogIsNotGoneOnWith(t *testing.T) { // P17.1: a Turn comes first
	for _, kind := range kinds {
		v, _ := vaultOf(kind, 100)
		d := disk.New(20)
		m := meter.New(100, d)
		l := opens(t, v, d, m)
		is(t, "Commit", l.Commit(tick(1)), api.ErrArg)
		is(t, "Turn of none", l.Turn(), api.ErrArg)
		is(t, "Commit", l.Commit(tick(1)), api.ErrArg)
		is(t, "Turn", l.Turn(tick(1)), api.OK)
		is(t, "Commit", l.Commit(tick(2), tick(3)), api.OK)
		is(t, "Commit", l.Commit(tick(4)), api.OK)
		l = opens(t, v, d, m, tick(1), tick(2), tick(3), tick(4))
		stands(t, l, 1, 10-1-1-1)
		is(t, "Commit behind an Open", l.Commit(tick(5)), api.ErrArg)
		is(t, "Turn that there is no room for", l.Turn(filled(256*11)...), api.ErrFull)
		is(t, "Commit", l.Commit(tick(5)), api.ErrArg)
		is(t, "Turn", l.Turn(tick(6)), api.OK)
		stands(t, l, 2, 9)
		is(t, "Commit", l.Commit(tick(7)), api.OK)
		is(t, "Turn", l.Turn(tick(8)), api.OK)
		stands(t, l, 3, 9)
		is(t, "Commit", l.Commit(tick(9)), api.OK)
		stands(t, l, 3, 8)
		stands(t, opens(t, v, d, m, tick(8), tick(9)), 3, 8)
	}
}

func TestOpenChangesNothing(t *testing.T) { // P17.1: it is no act, and what counts is opened however often
	for _, kind := range kinds {
		v, _ := vaultOf(kind, 100)
		d := disk.New(20)
		m := meter.New(100, d)
		l := opens(t, v, d, m)
		is(t, "Turn", l.Turn(tick(1), put(2, 300)), api.OK)
		is(t, "Commit", l.Commit(put(3, 512)), api.OK)
		acts, image, value := d.Acts(), d.Image(), m.Value
		d.Arm(1, 0)
		for range 3 {
			stands(t, opens(t, v, d, m, tick(1), put(2, 300), put(3, 512)), 1, 10-2-3)
		}
		if d.Acts() != acts || d.Down() || !bytes.Equal(d.Image(), image) || m.Value != value {
			t.Error("something is changed")
		}
	}
}

func TestNothingAtAll(t *testing.T) { // P17.1: nil things
	v, _ := vaultOf("real", 100)
	off := disk.New(9)
	off.Off(0)
	for i := range 8 {
		for _, d := range []*disk.Disk{disk.New(9), off} {
			v, m := v, meter.New(100, d)
			if i&1 != 0 {
				v = nil
			}
			if i&2 != 0 {
				d = nil
			}
			if i&4 != 0 {
				m = nil
			}
			switch {
			case i > 0:
				refuses(t, v, d, m, api.ErrNil)
			case d == off:
				refuses(t, v, d, m, api.ErrDown)
			default:
				stands(t, opens(t, v, d, m), 0, 4)
			}
		}
	}
	var none *commit.Log
	for _, list := range [][]api.Record{nil, {tick(1)}, {tick(-1)}} {
		is(t, "Turn of no log", none.Turn(list...), api.ErrNil)
		is(t, "Commit of no log", none.Commit(list...), api.ErrNil)
	}
	stands(t, none, 0, 0)
}

func TestWhosePowerIsOff(t *testing.T) { // P17.1: the disk's, or the register's, which may have another one, or none
	v, _ := vaultOf("real", 100)
	d, other := disk.New(20), disk.New(0)
	m := meter.New(100, other)
	l := opens(t, v, d, m)
	is(t, "Turn", l.Turn(tick(1)), api.OK)
	for _, off := range []*disk.Disk{d, other} {
		off.Off(0)
		image, value := d.Image(), m.Value
		refuses(t, v, d, m, api.ErrDown)
		is(t, "Turn", l.Turn(tick(2)), api.ErrDown)
		is(t, "Commit", l.Commit(tick(2)), api.ErrDown)
		stands(t, l, m.Epoch, 9)
		if !bytes.Equal(d.Image(), image) || m.Value != value {
			t.Error("something is changed")
		}
		off.On()
		l = opens(t, v, d, m, tick(1))
		is(t, "Turn", l.Turn(tick(1)), api.OK)
	}
	other.Arm(1, 0)
	is(t, "Commit", l.Commit(tick(2)), api.ErrDown)
	other.On()
	l = opens(t, v, d, m, tick(1))
	is(t, "Turn", l.Turn(tick(1)), api.OK)
	other.Arm(1, 1<<63)
	is(t, "Commit", l.Commit(tick(2)), api.ErrDown)
	other.On()
	opens(t, v, d, m, tick(1), tick(2))
	d = disk.New(20)
	m = meter.New(100, nil)
	l = opens(t, v, d, m)
	is(t, "Turn", l.Turn(tick(1)), api.OK)
	d.Off(0)
	refuses(t, v, d, m, api.ErrDown)
	is(t, "Turn", l.Turn(tick(1)), api.ErrDown)
	is(t, "Commit", l.Commit(tick(2)), api.ErrDown)
	d.On()
	opens(t, v, d, m, tick(1))
}

// What may be wrong with a call, one bit a thing: the errors that these are told by, in their order.
var (
	turnErrors   = []api.Errno{api.ErrDown, api.ErrArg, api.ErrArg, api.ErrSpent, api.ErrSpent, api.ErrSpent, api.ErrFull}
	commitErrors = []api.Errno{api.ErrDown, api.ErrArg, api.ErrArg, api.ErrArg, api.ErrLong, api.ErrSpent, api.ErrSpent, api.ErrFull}
)

// wrongs of a call: a set of them.
type wrongs int

// has: whether it is among them.
func (w wrongs) has(bit int) bool {
	return w>>bit&1 != 0
}

// pick the one number, if it is among them, or the other.
func (w wrongs) pick(bit, yes, no int) int {
	if w.has(bit) {
		return yes
	}
	return no
}

// first error of them.
func (w wrongs) first(errors []api.Errno) api.Errno {
	for i, e := range errors {
		if w.has(i) {
			return e
		}
	}
	return api.OK
}

// spoil what is handed in, and the power: the wrongs 0 to 2 of both calls.
func (w wrongs) spoil(list []api.Record, d *disk.Disk) []api.Record {
	if w.has(2) {
		list[len(list)-1].Wait = 1
	}
	if w.has(1) {
		list = nil
	}
	if w.has(0) {
		d.Off(0)
	}
	return list
}

// noChange: what a call that is refused changes nothing of.
type noChange struct {
	d     *disk.Disk
	w     *ideal.World
	l     *commit.Log
	m     *meter.Meter
	image []byte
	value meter.Value
	nums  [5]int
}

func (n *noChange) look() ([]byte, meter.Value, [5]int) {
	return n.d.Image(), n.m.Value, [5]int{n.d.Acts(), n.w.Size(), n.l.Epoch(), n.l.Left(), n.m.Left()}
}

func (n *noChange) check(t *testing.T, what string) {
	t.Helper()
	image, value, nums := n.look()
	if !bytes.Equal(image, n.image) || value != n.value || nums != n.nums {
		t.Fatalf("%s: something is changed", what)
	}
}

func unchanged(d *disk.Disk, w *ideal.World, l *commit.Log, m *meter.Meter) *noChange {
	n := &noChange{d: d, w: w, l: l, m: m}
	n.image, n.value, n.nums = n.look()
	return n
}

func TestOrderOfTurnsErrors(t *testing.T) { // P17.1: all things that may be wrong, in any set; what is refused changes nothing
	for wrong := range wrongs(1 << len(turnErrors)) {
		for _, kind := range kinds {
			v, w := vaultOf(kind, wrong.pick(5, 2, 3))
			d := disk.New(8)
			m := meter.New(wrong.pick(3, 1, 2), d)
			epoch := wrong.pick(4, 1<<32-1, 1<<32-2)
			is(t, "Next", m.Next(epoch, seg.Start(v, epoch)), api.OK)
			l := opens(t, v, d, m)
			stands(t, l, epoch, 4)
			body := wrong.pick(6, 256*4+1-48-3*63, 256*4-48-3*63) / 3
			list := []api.Record{put(1, body), put(2, body), put(3, wrong.pick(6, 256*4+1, 256*4)-48-3*63-2*body)}
			list = wrong.spoil(list, d)
			was := unchanged(d, w, l, m)
			want := wrong.first(turnErrors)
			is(t, fmt.Sprintf("%s: Turn of what %b is wrong with", kind, wrong), l.Turn(list...), want)
			if want == api.OK {
				stands(t, l, 1<<32-1, 0)
				opens(t, v, d, m, list...)
				continue
			}
			was.check(t, fmt.Sprintf("Turn of what %b is wrong with", wrong))
			d.On()
			is(t, "Commit behind a Turn that is refused", l.Commit(tick(1)), api.ErrArg)
			opens(t, v, d, m)
		}
	}
}

func TestOrderOfCommitsErrors(t *testing.T) { // P17.1: all things that may be wrong, in any set; what is refused changes nothing
	for wrong := range wrongs(1 << len(commitErrors)) {
		for _, kind := range kinds {
			size := wrong.pick(4, 16385, 16384)
			list := filled(size)
			v, w := vaultOf(kind, 1+len(list)-wrong.pick(6, 1, 0))
			d := disk.New(2*(1+sectorsOf(size)) - wrong.pick(7, 2, 0))
			m := meter.New(wrong.pick(5, 1, 2), d)
			l := opens(t, v, d, m)
			is(t, "Turn", l.Turn(tick(1)), api.OK)
			if wrong.has(3) {
				l = opens(t, v, d, m, tick(1))
			}
			list = wrong.spoil(list, d)
			was := unchanged(d, w, l, m)
			want := wrong.first(commitErrors)
			is(t, fmt.Sprintf("%s: Commit of what %b is wrong with", kind, wrong), l.Commit(list...), want)
			if want == api.OK {
				stands(t, l, 1, 0)
				opens(t, v, d, m, append([]api.Record{tick(1)}, list...)...)
				continue
			}
			was.check(t, fmt.Sprintf("Commit of what %b is wrong with", wrong))
			d.On()
			opens(t, v, d, m, tick(1))
		}
	}
}

func TestRoom(t *testing.T) { // P17.1: frames to the last sector, and one more
	for _, kind := range kinds {
		for sectors := range 12 {
			v, _ := vaultOf(kind, 10000)
			d := disk.New(2*sectors + 1)
			m := meter.New(always, d)
			l := opens(t, v, d, m)
			stands(t, l, 0, sectors)
			is(t, "Turn", l.Turn(filled(256*sectors+256)...), api.ErrFull)
			if sectors == 0 {
				is(t, "Turn", l.Turn(tick(1)), api.ErrFull)
				continue
			}
			list := filled(256 * sectors)
			is(t, "Turn", l.Turn(list...), api.OK)
			stands(t, l, 1, 0)
			is(t, "Commit", l.Commit(tick(1)), api.ErrFull)
			shows(t, v, d, m, list...)
			is(t, "Turn", l.Turn(tick(1)), api.OK)
			list = filled(max(256*sectors-256, 256))
			is(t, "Commit", l.Commit(filled(256*sectors)...), api.ErrFull)
			if sectors > 1 {
				is(t, "Commit", l.Commit(list...), api.OK)
				stands(t, l, 2, 0)
				shows(t, v, d, m, append([]api.Record{tick(1)}, list...)...)
			}
			is(t, "Commit", l.Commit(tick(1)), api.ErrFull)
		}
	}
}

func TestRoomForManyFrames(t *testing.T) { // P17.1: a Turn of several frames takes the sectors of each, up
	v, w := vaultOf("ideal", 10000)
	list := make([]api.Record, 3*28-1)
	for i := range list {
		list[i] = put(i+1, 512)
	}
	// 28 records are a frame of 16148 bytes, 64 sectors; 27 are one of 15573, 61: together 189, while one frame of all would have room in 187.
	for _, sectors := range []int{186, 187, 188, 189} {
		d := disk.New(2 * sectors)
		m := meter.New(always, d)
		l := opens(t, v, d, m)
		if sectors < 189 {
			was := unchanged(d, w, l, m)
			is(t, "Turn", l.Turn(list...), api.ErrFull)
			was.check(t, "Turn")
			continue
		}
		is(t, "Turn", l.Turn(list...), api.OK)
		stands(t, l, 1, 0)
		opens(t, v, d, m, list...)
	}
}

func TestAWholeDisk(t *testing.T) { // P17.1: 4096 sectors, filled by a Turn, and by Commits
	v, _ := vaultOf("ideal", 10000)
	d := disk.New(4096)
	m := meter.New(always, d)
	l := opens(t, v, d, m)
	var list []api.Record
	for len(cut(list)) <= 31 {
		list = append(list, filled(16384)...)
	}
	list = slices.Concat(cut(list)[:31]...)
	is(t, "Turn", l.Turn(list...), api.OK)
	for l.Left() > 0 {
		some := filled(min(l.Left()*256, 16384))
		is(t, "Commit", l.Commit(some...), api.OK)
		list = append(list, some...)
	}
	is(t, "Commit", l.Commit(tick(1)), api.ErrFull)
	shows(t, v, d, m, list...)
	is(t, "Turn", l.Turn(tick(1)), api.OK)
	all := []api.Record{tick(1)}
	for i := range 2047 {
		is(t, "Commit", l.Commit(tick(i)), api.OK)
		all = append(all, tick(i))
	}
	stands(t, l, 2, 0)
	is(t, "Commit", l.Commit(tick(1)), api.ErrFull)
	opens(t, v, d, m, all...)
}

func TestTheVaultsLimit(t *testing.T) { // P17.1: as many numbers of an epoch as it has, and one more
	for _, kind := range kinds {
		for _, limit := range []int{-1, 0, 1, 2, 3, 5} {
			v, _ := vaultOf(kind, limit)
			d := disk.New(100)
			m := meter.New(always, d)
			l := opens(t, v, d, m)
			for n := 1; n <= 7; n++ {
				list := make([]api.Record, n)
				for i := range list {
					list[i] = tick(i)
				}
				if n > limit {
					is(t, "Turn", l.Turn(list...), api.ErrSpent)
					continue
				}
				is(t, "Turn", l.Turn(list...), api.OK)
				is(t, "Commit", l.Commit(make([]api.Record, limit-n+1)...), api.ErrArg)
				for i := range limit - n {
					is(t, "Commit", l.Commit(tick(i), tick(1), tick(2), tick(3), tick(4)), api.ErrSpent)
					is(t, "Commit", l.Commit(tick(10*i)), api.OK)
					list = append(list, tick(10*i))
				}
				is(t, "Commit", l.Commit(tick(1)), api.ErrSpent)
				shows(t, v, d, m, list...)
			}
		}
	}
}

func TestHowOftenTheRegisterGoesOn(t *testing.T) { // P17.1: once a Turn, and once a Commit
	for _, kind := range kinds {
		for most := range 6 {
			v, _ := vaultOf(kind, 100)
			d := disk.New(100)
			m := meter.New(most, d)
			l := opens(t, v, d, m)
			if most == 0 {
				is(t, "Turn", l.Turn(tick(1)), api.ErrSpent)
				is(t, "Commit", l.Commit(tick(1)), api.ErrArg)
				continue
			}
			is(t, "Turn", l.Turn(tick(0), tick(1)), api.OK)
			list := []api.Record{tick(0), tick(1)}
			for i := range most - 1 {
				is(t, "Commit", l.Commit(tick(i), tick(i)), api.OK)
				list = append(list, tick(i), tick(i))
			}
			is(t, "Commit", l.Commit(tick(1)), api.ErrSpent)
			is(t, "Turn", l.Turn(tick(1)), api.ErrSpent)
			if m.Count != most || m.Epoch != 1 {
				t.Errorf("%d of %d", m.Count, most)
			}
			is(t, "Turn", opens(t, v, d, m, list...).Turn(tick(1)), api.ErrSpent)
			if v.Clashes() != 0 {
				t.Error("a nonce sealed two texts")
			}
		}
	}
}

func TestTheLastEpoch(t *testing.T) { // P17.1: 2^32 - 1 is begun, and none behind it
	for _, kind := range kinds {
		for _, epoch := range []int{1<<32 - 3, 1<<32 - 2, 1<<32 - 1, 1 << 32, 1<<32 + 1, math.MaxInt - 1, math.MaxInt} {
			v, _ := vaultOf(kind, 100)
			d := disk.New(41)
			m := meter.New(always, d)
			is(t, "Next", m.Next(epoch, seg.Start(v, epoch)), api.OK)
			l := opens(t, v, d, m)
			stands(t, l, epoch, 20)
			var list []api.Record
			for ; epoch < 1<<32-1; epoch++ {
				is(t, "Turn", l.Turn(tick(1)), api.OK)
				is(t, "Commit", l.Commit(tick(2)), api.OK)
				list = []api.Record{tick(1), tick(2)}
			}
			is(t, "Turn", l.Turn(tick(1)), api.ErrSpent)
			stands(t, l, epoch, 20-len(list))
			shows(t, v, d, m, list...)
			if list != nil {
				is(t, "Commit", l.Commit(tick(3)), api.OK)
				opens(t, v, d, m, append(list, tick(3))...)
			}
		}
	}
}

func TestARegisterOfNoFrames(t *testing.T) { // P17.1: its digest is the head of none, or nothing leads to it
	for _, kind := range kinds {
		v, _ := vaultOf(kind, 100)
		for epoch := range 4 {
			d := disk.New(9)
			m := meter.New(always, d)
			is(t, "Next", m.Next(epoch, [32]byte{}), api.OK)
			refuses(t, v, d, m, api.ErrTamper)
			is(t, "Next", m.Next(epoch, seg.Start(v, epoch+1)), api.OK)
			refuses(t, v, d, m, api.ErrTamper)
			is(t, "Next", m.Next(epoch, seg.Start(v, epoch)), api.OK)
			l := opens(t, v, d, m)
			stands(t, l, epoch, 4)
			is(t, "Commit", l.Commit(tick(1)), api.ErrArg)
			is(t, "Turn", l.Turn(tick(1)), api.OK)
			stands(t, l, epoch+1, 3)
		}
	}
	v, _ := vaultOf("real", 100)
	d := disk.New(0)
	m := meter.New(always, d)
	opens(t, v, d, m)
	m.Next(0, [32]byte{1})
	refuses(t, v, d, m, api.ErrTamper)
}

func TestAnIdealVaultOfNoWorld(t *testing.T) { // P17.1: no seal is made, so that nothing is kept, and a log stays as it was
	v := vault.Ideal(nil, vault.Key{}, 100)
	d := disk.New(9)
	m := meter.New(always, d)
	l := opens(t, v, d, m)
	for range 2 {
		is(t, "Turn", l.Turn(tick(1)), api.ErrNil)
		is(t, "Commit", l.Commit(tick(1)), api.ErrArg)
	}
	stands(t, l, 0, 4)
	if d.Acts() != 0 || m.Count != 0 {
		t.Errorf("%d acts, %d", d.Acts(), m.Count)
	}
	opens(t, v, d, m)
}

func TestAnotherVault(t *testing.T) { // P17.1: frames that aren't unpacked, since the key is another one, or the limit less
	v, _ := vaultOf("real", 100)
	d := disk.New(9)
	m := meter.New(always, d)
	l := opens(t, v, d, m)
	is(t, "Turn", l.Turn(tick(1), tick(2)), api.OK)
	is(t, "Commit", l.Commit(tick(3)), api.OK)
	refuses(t, vault.Real(vault.Key{1, 2, 4}, 100), d, m, api.ErrTamper)
	refuses(t, vault.Real(vault.Key{1, 2, 3}, 2), d, m, api.ErrTamper)
	again := vault.Real(vault.Key{1, 2, 3}, 3)
	opens(t, again, d, m, tick(1), tick(2), tick(3))
	for _, of := range []*ideal.World{ideal.New(), nil} {
		refuses(t, vault.Ideal(of, vault.Key{1, 2, 3}, 100), d, m, api.ErrTamper)
	}
}
