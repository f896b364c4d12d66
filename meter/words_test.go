package meter_test

import (
	"fmt"
	"math"
	"math/rand"
	"strings"
	"testing"

	"coffret/api"
	"coffret/disk"
	"coffret/meter"
)

// call is one call of a register, or of the disk whose power it has, and what is handed in to it.
type call struct {
	kind byte // X: Next; of the disk W: Write, S: Sync, T: Act, O: Off, N: On, A: Arm, F: Forge
	i    int  // of Next an epoch, of Arm in how many acts, else a sector
	b    byte // what a digest, or what is written, is made of
	keep uint64
}

// twin: the chapter's words, spelt out: all that a register ever said, and a disk of its own.
type twin struct {
	disk *disk.Disk // nil: the power is always on
	most int
	said []meter.Value
}

func newTwin(most int, d *disk.Disk) *twin {
	return &twin{disk: d, most: most, said: make([]meter.Value, 1)}
}

// value: what it said last.
func (w *twin) value() meter.Value {
	return w.said[len(w.said)-1]
}

// next: one value more, by what becomes of the power in its act.
func (w *twin) next(epoch int, root [32]byte) api.Errno {
	if w.disk.Down() {
		return api.ErrDown
	}
	if w.value().Epoch > epoch {
		return api.ErrArg
	}
	if len(w.said) == w.most+1 { // the first value, of noughts, is none that it went on to
		return api.ErrSpent
	}
	more := append(w.said, meter.Value{Count: len(w.said), Epoch: epoch, Root: root})
	goes, keep := w.disk.Act()
	if !goes {
		w.said = more
		return api.OK
	}
	if keep >= 1<<63 {
		w.said = more
	}
	w.disk.Off(keep)
	return api.ErrDown
}

// digest: one that is made of a byte.
func digest(b byte) (root [32]byte) {
	for i := range root {
		root[i] = b + byte(i)
	}
	return root
}

// ask a disk's call, of any disk.
func ask(d *disk.Disk, c call) string {
	switch c.kind {
	case 'W':
		return fmt.Sprint(d.Write(c.i, []byte{c.b}))
	case 'S':
		return fmt.Sprint(d.Sync())
	case 'F':
		return fmt.Sprint(d.Forge(c.i, []byte{c.b}))
	case 'T':
		return fmt.Sprint(d.Act())
	case 'O':
		d.Off(c.keep)
	case 'N':
		d.On()
	case 'A':
		d.Arm(c.i, c.keep)
	}
	return ""
}

// same: whether a register, and its disk, are as they are by the chapter's words.
func same(m *meter.Meter, d *disk.Disk, w *twin) string {
	want := w.value()
	if m.Count != want.Count || m.Epoch != want.Epoch || m.Root != want.Root {
		return fmt.Sprintf("it has %v, not %v", m.Value, want)
	}
	if left := w.most + 1 - len(w.said); m.Left() != left {
		return fmt.Sprintf("Left %d, not %d", m.Left(), left)
	}
	said, e := m.Get()
	if w.disk.Down() && (said != meter.Value{} || e != api.ErrDown) || !w.disk.Down() && (said != want || e != api.OK) {
		return fmt.Sprintf("Get: %v, %d, the power off: %t", said, e, w.disk.Down())
	}
	if d.Acts() != w.disk.Acts() || d.Down() != w.disk.Down() || string(d.Image()) != string(w.disk.Image()) {
		return fmt.Sprintf("its disk has Acts %d, not %d, Down %t, or other sectors", d.Acts(), w.disk.Acts(), d.Down())
	}
	return ""
}

// tell calls.
func tell(calls []call) string {
	var list []string
	for _, c := range calls {
		list = append(list, fmt.Sprintf("%c(%d, %d, %x)", c.kind, c.i, c.b, c.keep))
	}
	return strings.Join(list, " ")
}

// holds calls, one behind the other, against the chapter's words.
func holds(t *testing.T, what string, most int, d, twinDisk *disk.Disk, calls ...call) {
	t.Helper()
	m, w := meter.New(most, d), newTwin(most, twinDisk)
	for k, c := range calls {
		if c.kind == 'X' {
			if got, want := m.Next(c.i, digest(c.b)), w.next(c.i, digest(c.b)); got != want {
				t.Fatalf("%s, most %d: %s answered %d, not %d", what, most, tell(calls[:k+1]), got, want)
			}
		} else if got, want := ask(d, c), ask(w.disk, c); got != want {
			t.Fatalf("%s, most %d: %s: the disk answered %s, not %s", what, most, tell(calls[:k+1]), got, want)
		}
		if wrong := same(m, d, w); wrong != "" {
			t.Fatalf("%s, most %d: behind %s: %s", what, most, tell(calls[:k+1]), wrong)
		}
	}
}

// is: a call's answer.
func is(t *testing.T, what string, got, want api.Errno) {
	t.Helper()
	if got != want {
		t.Errorf("%s: %d, not %d", what, got, want)
	}
}

// says: what a register, whose power is on, says, and how often it can go on.
func says(t *testing.T, what string, m *meter.Meter, want meter.Value, left int) {
	t.Helper()
	if v, e := m.Get(); v != want || e != api.OK {
		t.Errorf("%s: Get: %v, %d, not %v", what, v, e, want)
	}
	if m.Count != want.Count || m.Epoch != want.Epoch || m.Root != want.Root {
		t.Errorf("%s: it has %d, %d, %v, not %v", what, m.Count, m.Epoch, m.Root, want)
	}
	if m.Left() != left {
		t.Errorf("%s: Left %d, not %d", what, m.Left(), left)
	}
}

func TestOneNextAndNoMore(t *testing.T) { // P12.1: the chapter's example
	m := meter.New(1, nil)
	is(t, "the first", m.Next(0, digest(1)), api.OK)
	is(t, "the second", m.Next(0, digest(2)), api.ErrSpent)
	says(t, "behind both", m, meter.Value{Count: 1, Root: digest(1)}, 0)
}

func TestAtFirst(t *testing.T) { // P12.1: noughts, and as often as is asked, within bounds
	for _, c := range []struct{ most, left int }{
		{math.MinInt, 0}, {-1 << 40, 0}, {-1, 0}, {0, 0}, {1, 1}, {2, 2}, {1000, 1000}, {1 << 32, 1 << 32},
		{1<<40 - 1, 1<<40 - 1}, {1 << 40, 1 << 40}, {1<<40 + 1, 1 << 40}, {1 << 62, 1 << 40}, {math.MaxInt, 1 << 40},
	} {
		for _, d := range []*disk.Disk{nil, disk.New(0), disk.New(2)} {
			m := meter.New(c.most, d)
			says(t, fmt.Sprintf("New(%d)", c.most), m, meter.Value{}, c.left)
			want, left := meter.Value{}, 0
			wantE := api.ErrSpent
			if c.left > 0 {
				want, left = meter.Value{Count: 1, Epoch: 2, Root: digest(3)}, c.left-1
				wantE = api.OK
			}
			is(t, fmt.Sprintf("the first Next of New(%d)", c.most), m.Next(2, digest(3)), wantE)
			says(t, fmt.Sprintf("New(%d), gone on", c.most), m, want, left)
		}
	}
}

func TestGoesOnAsOftenAsItMay(t *testing.T) { // P12.1: one more Count each time, and never once more
	for _, most := range []int{1, 2, 3, 10, 1000} {
		d := disk.New(1)
		m := meter.New(most, d)
		for k := range most {
			is(t, "Next", m.Next(k/3, digest(byte(k))), api.OK)
			says(t, fmt.Sprintf("Next %d of %d", k, most), m, meter.Value{Count: k + 1, Epoch: k / 3, Root: digest(byte(k))}, most-k-1)
		}
		for range 3 {
			is(t, "Next, once too often", m.Next(most, digest(9)), api.ErrSpent)
		}
		says(t, "spent", m, meter.Value{Count: most, Epoch: (most - 1) / 3, Root: digest(byte(most - 1))}, 0)
		if d.Acts() != most || d.Down() {
			t.Errorf("most %d: Acts %d, Down %t", most, d.Acts(), d.Down())
		}
	}
}

func TestEpochsMayStayOrRise(t *testing.T) { // P12.1: by any step
	m := meter.New(100, nil)
	for k, epoch := range []int{0, 0, 1, 1, 2, 7, 7, 1 << 32, 1 << 40, math.MaxInt - 1, math.MaxInt, math.MaxInt} {
		is(t, fmt.Sprintf("Next of %d", epoch), m.Next(epoch, digest(byte(k))), api.OK)
		says(t, "gone on", m, meter.Value{Count: k + 1, Epoch: epoch, Root: digest(byte(k))}, 99-k)
	}
}

func TestAllOfADigest(t *testing.T) { // P12.1: each bit of it is said, and none of the one ahead
	m := meter.New(1000, nil)
	for bit := range 256 {
		var root [32]byte
		root[bit/8] = 1 << (bit % 8)
		is(t, "Next", m.Next(0, root), api.OK)
		says(t, fmt.Sprintf("bit %d", bit), m, meter.Value{Count: bit + 1, Root: root}, 999-bit)
	}
}

// someCalls, of which the order matters.
var someCalls = []call{
	{kind: 'X', i: 0, b: 1}, {kind: 'X', i: 1, b: 2}, {kind: 'X', i: 2, b: 3}, {kind: 'W', i: 0, b: 'a'}, {kind: 'W', i: 1, b: 'b'}, {kind: 'S'}, {kind: 'T'},
	{kind: 'O', keep: 1 << 63}, {kind: 'N'}, {kind: 'A', i: 1, keep: 1<<63 | 1}, {kind: 'A', i: 2, keep: 1<<63 - 2}, {kind: 'F', i: 0, b: 'f'},
}

func TestAllOrders(t *testing.T) { // P12.1: each row of five of these calls, in every order
	const calls = 5
	total := 1
	for range calls {
		total *= len(someCalls)
	}
	for number := range total {
		var list []call
		for range calls {
			list = append(list, someCalls[number%len(someCalls)])
			number /= len(someCalls)
		}
		holds(t, "all orders", 2, disk.New(2), disk.New(2), list...)
	}
}

// anyCall: the power is on more often than off; epochs rise slowly, for the most part.
func anyCall(rnd *rand.Rand, done int) call {
	c := call{kind: "XXXXXXXXWWWSTONNNNAAF"[rnd.Intn(21)], i: rnd.Intn(4), b: byte(rnd.Intn(256)), keep: rnd.Uint64()}
	switch c.kind {
	case 'X':
		c.i = done/8 - 1 + rnd.Intn(3)
		if rnd.Intn(200) == 0 {
			c.i = []int{math.MinInt, math.MaxInt, -1, 1 << 32, 0}[rnd.Intn(5)]
		}
	case 'A':
		c.i = rnd.Intn(10) - 1
	}
	return c
}

func TestAnyCalls(t *testing.T) { // P12.1, P12.2: in every order
	rnd := rand.New(rand.NewSource(1))
	for range 3000 {
		var calls []call
		for done := range rnd.Intn(100) {
			calls = append(calls, anyCall(rnd, done))
		}
		holds(t, "made up", rnd.Intn(60), disk.New(3), disk.New(3), calls...)
		holds(t, "made up, without a disk", rnd.Intn(60), nil, nil, calls...)
	}
}

func FuzzAnyCalls(f *testing.F) { // P12.1, P12.2
	f.Add(2, []byte{0, 1, 0, 2, 4, 0, 1, 5, 2, 6})
	f.Add(3, []byte{6, 255, 0, 1, 7, 0, 0, 3, 0, 6, 1, 0, 8, 0})
	f.Add(0, []byte{0, 1, 2, 3, 4, 5, 6, 7, 8})
	f.Fuzz(func(t *testing.T, most int, b []byte) {
		most = int(uint(most) % 100)
		var calls []call
		for k, kind := range b[:min(len(b), 200)] {
			next := b[(k+1)%len(b)]
			c := call{kind: "XXWSTONAF"[kind%9], i: int(next % 4), b: byte(k), keep: uint64(next) * 0x0101010101010101}
			if c.kind == 'A' || c.kind == 'X' {
				c.i = int(int8(next)) >> 3
			}
			calls = append(calls, c)
		}
		holds(t, "made up", most, disk.New(3), disk.New(3), calls...)
		holds(t, "made up, without a disk", most, nil, nil, calls...)
	})
}
