package disk_test

import (
	"fmt"
	"math"
	"math/rand"
	"slices"
	"strings"
	"testing"

	"coffret/api"
	"coffret/disk"
)

// call is one call of a disk, and what is handed in to it.
type call struct {
	kind byte   // W: Write, R: Read, S: Sync, T: Act, O: Off, N: On, A: Arm, F: Forge
	i    int    // of Arm in how many acts
	b    string // what is written
	keep uint64
}

// answer is what a call answers, so far as it answers that.
type answer struct {
	b    string
	e    api.Errno
	goes bool
	keep uint64
}

// change is a write, of the owner or of somebody else, and what became of it.
type change struct {
	sector int
	what   string
	fate   string // safe, unsafe, or lost
}

// twin: the chapter's words, spelt out: all that was ever written, in its order.
type twin struct {
	size    int
	past    []change
	down    bool
	acts    int
	armed   bool
	last    int // the act in which the power goes
	keeping uint64
}

// padded: what a sector is of which these bytes are written.
func padded(b string) string {
	return b + strings.Repeat("\x00", 256-len(b))
}

// read: a sector as it is: what was written last, and isn't lost.
func (m *twin) read(sector int) string {
	for _, c := range slices.Backward(m.past) {
		if c.sector == sector && c.fate != "lost" {
			return c.what
		}
	}
	return padded("")
}

// image: all sectors.
func (m *twin) image() string {
	all := ""
	for sector := range m.size {
		all += m.read(sector)
	}
	return all
}

// become: each write that isn't safe has a fate, of its sector and of how many such writes are ahead of it.
func (m *twin) become(fate func(sector, ahead int) string) {
	ahead := 0
	for k, c := range m.past {
		if c.fate == "unsafe" {
			m.past[k].fate = fate(c.sector, ahead)
			ahead++
		}
	}
}

// off: the power goes, if it is on.
func (m *twin) off(keep uint64) {
	if m.down {
		return
	}
	m.become(func(_, ahead int) string {
		if keep>>(ahead%64)%2 == 1 {
			return "safe"
		}
		return "lost"
	})
	m.down, m.armed = true, false
}

// act: whether the power goes in it.
func (m *twin) act() bool {
	m.acts++
	if !m.armed || m.acts != m.last {
		return false
	}
	m.armed = false
	return true
}

// wrong: what is wrong with a sector's number, or bytes.
func (m *twin) wrong(c call) api.Errno {
	if c.i < 0 || c.i >= m.size {
		return api.ErrArg
	}
	if len(c.b) > 256 {
		return api.ErrLong
	}
	return api.OK
}

// write: a sector is that, and the power may go.
func (m *twin) write(c call) api.Errno {
	if m.down {
		return api.ErrDown
	}
	if e := m.wrong(c); e != api.OK {
		return e
	}
	m.past = append(m.past, change{c.i, padded(c.b), "unsafe"})
	if m.act() {
		m.off(m.keeping)
		return api.ErrDown
	}
	return api.OK
}

// sync: all is safe, or the power goes.
func (m *twin) sync() api.Errno {
	if m.down {
		return api.ErrDown
	}
	if m.act() {
		m.off(m.keeping)
		return api.ErrDown
	}
	m.become(func(int, int) string { return "safe" })
	return api.OK
}

// forge: somebody else writes.
func (m *twin) forge(c call) api.Errno {
	if e := m.wrong(c); e != api.OK {
		return e
	}
	m.become(func(sector, _ int) string {
		if sector == c.i {
			return "lost"
		}
		return "unsafe"
	})
	m.past = append(m.past, change{c.i, padded(c.b), "safe"})
	return api.OK
}

// answer: what the chapter says that a call answers.
func (m *twin) answer(c call) answer {
	switch c.kind {
	case 'W':
		return answer{e: m.write(c)}
	case 'S':
		return answer{e: m.sync()}
	case 'F':
		return answer{e: m.forge(c)}
	case 'R':
		if m.down {
			return answer{e: api.ErrDown}
		}
		if c.i < 0 || c.i >= m.size {
			return answer{e: api.ErrArg}
		}
		return answer{b: m.read(c.i)}
	case 'T':
		if !m.down && m.act() {
			return answer{goes: true, keep: m.keeping}
		}
	case 'O':
		m.off(c.keep)
	case 'N':
		m.down = false
	case 'A':
		m.armed, m.last, m.keeping = c.i >= 1 && c.i <= math.MaxInt-m.acts, m.acts+c.i, c.keep
	}
	return answer{}
}

// ask: what a disk answers to a call.
func ask(d *disk.Disk, c call) answer {
	switch c.kind {
	case 'W':
		return answer{e: d.Write(c.i, []byte(c.b))}
	case 'S':
		return answer{e: d.Sync()}
	case 'F':
		return answer{e: d.Forge(c.i, []byte(c.b))}
	case 'R':
		b, e := d.Read(c.i)
		return answer{b: string(b), e: e}
	case 'T':
		goes, keep := d.Act()
		return answer{goes: goes, keep: keep}
	case 'O':
		d.Off(c.keep)
	case 'N':
		d.On()
	case 'A':
		d.Arm(c.i, c.keep)
	}
	return answer{}
}

// same: whether a disk is, as far as it tells, as its twin.
func same(d *disk.Disk, m *twin) string {
	switch {
	case d.Size() != m.size:
		return fmt.Sprintf("Size %d, not %d", d.Size(), m.size)
	case d.Acts() != m.acts:
		return fmt.Sprintf("Acts %d, not %d", d.Acts(), m.acts)
	case d.Down() != m.down:
		return fmt.Sprintf("Down %t", d.Down())
	case string(d.Image()) != m.image():
		return fmt.Sprintf("Image %s, not %s", short(string(d.Image())), short(m.image()))
	}
	return ""
}

// short tells sectors, each by what stands ahead of its noughts.
func short(b string) string {
	var list []string
	for sector := range slices.Chunk([]byte(b), 256) {
		list = append(list, fmt.Sprintf("%.20q (%d)", strings.TrimRight(string(sector), "\x00"), len(sector)))
	}
	return strings.Join(list, " ")
}

// tell calls.
func tell(calls []call) string {
	var list []string
	for _, c := range calls {
		list = append(list, fmt.Sprintf("%c(%d, %.20q, %x)", c.kind, c.i, c.b, c.keep))
	}
	return strings.Join(list, " ")
}

// holds calls of a disk, one behind the other, against the chapter's words.
func holds(t *testing.T, what string, size int, calls ...call) {
	t.Helper()
	d, m := disk.New(size), &twin{size: size}
	for k, c := range calls {
		if got, want := ask(d, c), m.answer(c); got != want {
			t.Fatalf("%s: %s answered %+v, not %+v", what, tell(calls[:k+1]), got, want)
		}
		if wrong := same(d, m); wrong != "" {
			t.Fatalf("%s: behind %s: %s", what, tell(calls[:k+1]), wrong)
		}
	}
}

// reads: a sector is of these bytes, and of noughts behind them.
func reads(t *testing.T, what string, d *disk.Disk, i int, want string) {
	t.Helper()
	if b, e := d.Read(i); e != api.OK || string(b) != padded(want) {
		t.Errorf("%s: sector %d is %s, %d, not %.20q", what, i, short(string(b)), e, want)
	}
}

// is: a call's answer.
func is(t *testing.T, what string, got, want api.Errno) {
	t.Helper()
	if got != want {
		t.Errorf("%s: %d, not %d", what, got, want)
	}
}

func TestTheSecondWriteIsKept(t *testing.T) { // P11.1: the chapter's example
	d := disk.New(2)
	is(t, "Write", d.Write(0, []byte("x")), api.OK)
	is(t, "Write", d.Write(1, []byte("y")), api.OK)
	d.Off(2)
	d.On()
	reads(t, "behind the loss of power", d, 0, "")
	reads(t, "behind the loss of power", d, 1, "y")
}

func TestSizes(t *testing.T) { // P11.1
	for _, c := range []struct{ n, want int }{
		{math.MinInt, 0}, {-4096, 0}, {-1, 0}, {0, 0}, {1, 1}, {2, 2}, {9, 9},
		{4095, 4095}, {4096, 4096}, {4097, 4096}, {1 << 32, 4096}, {math.MaxInt, 4096},
	} {
		d := disk.New(c.n)
		if d.Size() != c.want || len(d.Image()) != c.want*256 || d.Acts() != 0 || d.Down() {
			t.Errorf("New(%d): Size %d, not %d, %d bytes, Acts %d, Down %t", c.n, d.Size(), c.want, len(d.Image()), d.Acts(), d.Down())
		}
		if c.want > 0 {
			reads(t, "new", d, 0, "")
			reads(t, "new", d, c.want-1, "")
			is(t, "Write of the last one", d.Write(c.want-1, []byte("last")), api.OK)
			reads(t, "written", d, c.want-1, "last")
		}
		is(t, "Write behind the last one", d.Write(c.want, nil), api.ErrArg)
	}
}

func TestAllLengths(t *testing.T) { // P11.1: noughts stand behind what is written, also where there were bytes ahead
	full := strings.Repeat("#", 256)
	for length := range 257 {
		b := strings.Repeat("b", length)
		holds(t, "all lengths", 1, call{kind: 'W', b: full}, call{kind: 'W', b: b}, call{kind: 'R'}, call{kind: 'S'}, call{kind: 'F', b: full}, call{kind: 'F', b: b}, call{kind: 'R'})
	}
}

func TestEachSector(t *testing.T) { // P11.1: each stands where it stands in the image, however they are written
	const size = 4096
	d := disk.New(size)
	for i := range size {
		at := (i*1021 + 5) % size
		write := d.Write
		if at%3 == 0 {
			write = d.Forge
		}
		is(t, "a sector", write(at, fmt.Append(nil, "sector ", at)), api.OK)
	}
	image := string(d.Image())
	for i := range size {
		want := fmt.Sprint("sector ", i)
		reads(t, "each", d, i, want)
		if image[i*256:(i+1)*256] != padded(want) {
			t.Errorf("sector %d of the image: %s", i, short(image[i*256:(i+1)*256]))
		}
	}
}

// someCalls, of which the order matters.
var someCalls = []call{
	{kind: 'W', i: 0, b: "a"}, {kind: 'W', i: 0, b: "b"}, {kind: 'W', i: 1, b: "c"}, {kind: 'F', i: 0, b: "f"}, {kind: 'S'}, {kind: 'T'},
	{kind: 'O', keep: 1}, {kind: 'O', keep: 2}, {kind: 'N'}, {kind: 'A', i: 1, keep: 1}, {kind: 'A', i: 2, keep: 2}, {kind: 'A'},
}

func TestAllOrders(t *testing.T) { // P11.1: each row of five of these calls, in every order
	const calls = 5
	total := 1
	for range calls {
		total *= len(someCalls)
	}
	for number := range total {
		var list []call
		for range calls {
			list = append(list, someCalls[number%len(someCalls)])
			number /= len(someCalls)
		}
		holds(t, "all orders", 2, list...)
	}
}

// anyCall: of few sectors; the power is on more often than off, and few writes are synced at once.
func anyCall(rnd *rand.Rand, size int) call {
	c := call{kind: "WWWWWWWWRSTONNNNAFF"[rnd.Intn(19)], i: rnd.Intn(size+3) - 1, keep: rnd.Uint64()}
	switch {
	case c.kind == 'A':
		c.i = rnd.Intn(12) - 2
	case rnd.Intn(50) == 0:
		c.i = []int{math.MinInt, math.MaxInt, 1 << 32, -1 << 32, api.MaxSectors}[rnd.Intn(5)]
	}
	c.b = fmt.Sprint(rnd.Intn(1000))
	if rnd.Intn(8) == 0 {
		c.b = strings.Repeat("l", rnd.Intn(300))
	}
	return c
}

func TestAnyCalls(t *testing.T) { // P11.1: in every order
	rnd := rand.New(rand.NewSource(1))
	for range 2000 {
		size := rnd.Intn(6)
		var calls []call
		for range rnd.Intn(60) {
			calls = append(calls, anyCall(rnd, size))
		}
		holds(t, "made up", size, calls...)
	}
}

func TestManyCalls(t *testing.T) { // P11.1: with more writes that aren't safe than keep has bits
	rnd := rand.New(rand.NewSource(2))
	for range 100 {
		size := 1 + rnd.Intn(9)
		var calls []call
		for range 200 {
			c := anyCall(rnd, size)
			if c.kind != 'W' && c.kind != 'F' && rnd.Intn(40) > 0 {
				c.kind = 'W'
			}
			calls = append(calls, c)
		}
		holds(t, "many", size, append(calls, call{kind: 'O', keep: rnd.Uint64()}, call{kind: 'N'})...)
	}
}

func TestDisksKnowNothingOfOneAnother(t *testing.T) { // P11.1
	one, two := disk.New(2), disk.New(2)
	one.Arm(3, 1)
	one.Write(0, []byte("one"))
	two.Write(1, []byte("two"))
	two.Off(0)
	one.Act()
	if one.Down() || !two.Down() || one.Acts() != 2 || two.Acts() != 1 {
		t.Errorf("Down %t, %t, Acts %d, %d", one.Down(), two.Down(), one.Acts(), two.Acts())
	}
	reads(t, "one", one, 0, "one")
	reads(t, "one", one, 1, "")
	is(t, "Sync, as the fuse says", one.Sync(), api.ErrDown)
	two.On()
	reads(t, "two", two, 0, "")
	reads(t, "two", two, 1, "")
}

func FuzzAnyCalls(f *testing.F) { // P11.1
	f.Add(2, []byte{0, 1, 0, 2, 4, 0, 1, 5, 2, 6})
	f.Add(3, []byte{7, 2, 0, 1, 4, 6, 8, 2, 0, 5, 255, 6})
	f.Add(0, []byte{0, 1, 2, 3, 4, 5, 6, 7, 8})
	f.Fuzz(func(t *testing.T, size int, b []byte) {
		size = int(uint(size) % 5)
		var calls []call
		for k, kind := range b[:min(len(b), 200)] {
			next := b[(k+1)%len(b)]
			c := call{kind: "WWRTSONAF"[kind%9], i: int(next)%(size+2) - 1, b: strings.Repeat(string(rune(k)), int(next)), keep: uint64(next) * 0x0101010101010101}
			if c.kind == 'A' {
				c.i = int(int8(next))
			}
			calls = append(calls, c)
		}
		holds(t, "made up", size, calls...)
	})
}
