package chain_test

import (
	"bytes"
	"encoding/binary"
	"fmt"
	"math/rand"
	"testing"

	"coffret/api"
	"coffret/chain"
	"coffret/disk"
)

// span: an area as the chapter's words have it: whereabouts of the disk it is, and how much of it the frames take.
type span struct {
	first, size, taken int
}

// twin: the chapter's words, spelt out over a disk that gets the writes.
type twin struct {
	d     *disk.Disk
	spans []span
}

// half: an epoch's span.
func (m *twin) half(epoch int) span {
	half := (m.d.Size() - m.d.Size()%2) / 2
	return span{first: int(uint64(epoch)&1) * half, size: half}
}

// add: what Add answers.
func (m *twin) add(k int, f []byte) api.Errno {
	s := &m.spans[k]
	if len(f) < 48 || len(f) > 16384 || binary.LittleEndian.Uint64(f) != uint64(len(f)) {
		return api.ErrArg
	}
	if m.d.Down() {
		return api.ErrDown
	}
	all := padded(f)
	n := len(all) / 256
	if s.taken+n > s.size {
		return api.ErrFull
	}
	for i := range n {
		if m.d.Write(s.first+s.taken+i, all[i*256:(i+1)*256]) != api.OK {
			return api.ErrDown
		}
	}
	s.taken += n
	return api.OK
}

// next: what Next answers, out of all the disk's bytes.
func (m *twin) next(k int) ([]byte, api.Errno) {
	s := &m.spans[k]
	if m.d.Down() {
		return nil, api.ErrDown
	}
	b := m.d.Image()[(s.first+s.taken)*256 : (s.first+s.size)*256]
	if len(b) == 0 {
		return nil, api.OK
	}
	n := int(int64(binary.LittleEndian.Uint64(b)))
	if n < 48 || n > 16384 || n > len(b) {
		return nil, api.OK
	}
	s.taken += len(padded(b[:n])) / 256
	return b[:n], api.OK
}

// bench: areas of a disk, and their twin.
type bench struct {
	rnd   *rand.Rand
	d     *disk.Disk
	areas []*chain.Area
	twin
}

// newBench: three areas of a disk of so many sectors, the first two of the same half.
func newBench(rnd *rand.Rand, sectors int) *bench {
	x := &bench{rnd: rnd, d: disk.New(sectors), twin: twin{d: disk.New(sectors)}}
	for _, epoch := range []int{4, 2, 1} {
		x.areas = append(x.areas, chain.Half(x.d, epoch))
		x.spans = append(x.spans, x.half(epoch))
	}
	return x
}

// anyNumber that bytes may begin with: the bounds among them, and those beside them.
func (x *bench) anyNumber() int {
	list := []int{-1, 0, 1, 47, 48, 49, 111, 255, 256, 257, 300, 511, 512, 513, 700, 16383, 16384, 16385, 1 << 40, -1 << 63, 256 * x.d.Size() / 2, 256*(x.d.Size()/2) + 1}
	return list[x.rnd.Intn(len(list))]
}

// anyBytes, most of them a frame's.
func (x *bench) anyBytes() []byte {
	length := 48 + x.rnd.Intn(1000)
	switch x.rnd.Intn(12) {
	case 0:
		return told(x.anyNumber(), x.rnd.Intn(600))
	case 1:
		return told(length+x.rnd.Intn(3)-1, length)
	case 2:
		return nil
	case 3:
		length = min(max(x.anyNumber(), 48), 16384)
	}
	return frame(length, byte(x.rnd.Intn(256)))
}

// anySector, most of them the disk's.
func (x *bench) anySector() int {
	return x.rnd.Intn(x.d.Size()+2) - 1
}

// one call, made up; what it and its twin's answer, and its name.
func (x *bench) one() (got, want, name string) {
	k := x.rnd.Intn(len(x.areas))
	a := x.areas[k]
	keep := x.rnd.Uint64()
	switch x.rnd.Intn(22) {
	case 0, 1, 2, 3, 4:
		f := x.anyBytes()
		return fmt.Sprint(a.Add(f)), fmt.Sprint(x.add(k, f)), fmt.Sprintf("Add of %d bytes to %d", len(f), k)
	case 5, 6, 7, 8, 9:
		b, e := a.Next()
		c, f := x.next(k)
		return fmt.Sprint(b, e), fmt.Sprint(c, f), fmt.Sprintf("Next of %d", k)
	case 10, 11, 12:
		epoch := x.rnd.Intn(9) - 4
		x.areas[k], x.spans[k] = chain.Half(x.d, epoch), x.half(epoch)
		return "", "", fmt.Sprintf("Half %d of %d", k, epoch)
	case 13:
		i, b := x.anySector(), told(x.anyNumber(), x.rnd.Intn(257))
		return fmt.Sprint(x.d.Forge(i, b)), fmt.Sprint(x.twin.d.Forge(i, b)), "Forge"
	case 14:
		i, b := x.anySector(), told(x.anyNumber(), x.rnd.Intn(257))
		return fmt.Sprint(a.Write(i, b)), fmt.Sprint(x.twin.d.Write(i, b)), "Write"
	case 15, 16:
		return fmt.Sprint(a.Sync()), fmt.Sprint(x.twin.d.Sync()), "Sync"
	case 17:
		a.Off(keep)
		x.twin.d.Off(keep)
		return "", "", "Off"
	case 18:
		n := x.rnd.Intn(9)
		a.Arm(n, keep)
		x.twin.d.Arm(n, keep)
		return "", "", "Arm"
	}
	a.On()
	x.twin.d.On()
	return "", "", "On"
}

// same: what is to be seen is as with the twin.
func (x *bench) same() string {
	for k, s := range x.spans {
		if n := x.areas[k].Left(); n != s.size-s.taken {
			return fmt.Sprintf("%d sectors are left of %d, not %d", n, k, s.size-s.taken)
		}
	}
	switch {
	case x.d.Acts() != x.twin.d.Acts():
		return fmt.Sprintf("%d acts, not %d", x.d.Acts(), x.twin.d.Acts())
	case x.d.Down() != x.twin.d.Down():
		return "the power"
	case !bytes.Equal(x.d.Image(), x.twin.d.Image()):
		return "another image"
	}
	return ""
}

// run calls, made up, one behind the other.
func (x *bench) run(t *testing.T, calls int) {
	t.Helper()
	for i := range calls {
		got, want, name := x.one()
		if len(got) > 200 || len(want) > 200 {
			got, want = fmt.Sprint(got == want), "true"
		}
		if got != want {
			t.Fatalf("call %d: %s: %s, not %s", i, name, got, want)
		}
		if wrong := x.same(); wrong != "" {
			t.Fatalf("call %d: behind %s: %s", i, name, wrong)
		}
	}
}

func TestAnyCalls(t *testing.T) { // P16.1: in every order, with the power going at any time
	for seed := range int64(400) {
		rnd := rand.New(rand.NewSource(seed))
		sectors := rnd.Intn(40)
		if seed%10 == 0 {
			sectors = 120 + rnd.Intn(20)
		}
		newBench(rnd, sectors).run(t, 200)
	}
}

func TestNextOfAnyNumber(t *testing.T) { // P16.1: whatever the sectors begin with, and however many there are
	numbers := []int{-1 << 63, -16384, -256, -48, -1, 0, 1, 47, 1 << 40, 1<<63 - 1, 1<<56 + 48, 16384 + 1, 16384 + 256, 65536}
	for n := 48; n <= 16384; n++ {
		if n%256 < 2 || n%256 == 255 || n < 52 {
			numbers = append(numbers, n)
		}
	}
	for _, sectors := range []int{1, 2, 3, 5, 63, 64, 65, 66, 100} {
		d := disk.New(2 * sectors)
		for i := range 2 * sectors {
			d.Write(i, bytes.Repeat([]byte{byte(i + 1)}, 256))
		}
		for _, n := range numbers {
			d.Write(sectors, told(n, 256))
			a := chain.Half(d, 1)
			b, e := a.Next()
			is(t, "Next", e, api.OK)
			if n < 48 || n > 16384 || n > sectors*256 {
				if len(b) != 0 || a.Left() != sectors {
					t.Fatalf("%d of %d sectors: %d bytes, %d left", n, sectors, len(b), a.Left())
				}
				continue
			}
			if !bytes.Equal(b, look(d, sectors, sectors)[:n]) || a.Left() != sectors-(n+255)/256 {
				t.Fatalf("%d of %d sectors: %d bytes, %d left", n, sectors, len(b), a.Left())
			}
		}
	}
}

func TestNextEndsWithTheArea(t *testing.T) { // P16.1: a frame doesn't reach into the other one, nor behind both
	d := disk.New(9)
	adds(t, chain.Half(d, 0), frame(3*256, 1))
	adds(t, chain.Half(d, 1), frame(3*256, 2))
	for _, first := range []int{3, 7} {
		for n := 255; n < 700; n++ {
			d.Forge(first, told(n, 256))
			a := chain.Half(d, first/4)
			reads(t, a, frame(3*256, byte(1+first/4)))
			if n > 256 {
				ends(t, a)
				isLeft(t, a, 1)
				continue
			}
			reads(t, a, told(n, n))
			isLeft(t, a, 0)
			ends(t, a)
		}
	}
}

func TestNoughtsBehindAFrameAreNotAskedFor(t *testing.T) { // P16.1: the answer is the frame's bytes, whatever stands behind them
	d := disk.New(8)
	f := frame(300, 1)
	adds(t, chain.Half(d, 0), f, frame(50, 2))
	d.Forge(1, append(bytes.Clone(f[256:]), "what somebody wrote"...))
	a := chain.Half(d, 0)
	reads(t, a, f, frame(50, 2))
	ends(t, a)
}

func TestNextFindsWhatComesLater(t *testing.T) { // P16.1: it asks the disk each time
	d := disk.New(8)
	a, b := chain.Half(d, 0), chain.Half(d, 2)
	ends(t, a)
	adds(t, b, frame(300, 1))
	reads(t, a, frame(300, 1))
	ends(t, a)
	d.Forge(2, frame(100, 2))
	reads(t, a, frame(100, 2))
	isLeft(t, a, 1)
}

func FuzzAnyCalls(f *testing.F) {
	f.Add(int64(1), uint16(9))
	f.Add(int64(2), uint16(140))
	f.Add(int64(3), uint16(0))
	f.Fuzz(func(t *testing.T, seed int64, sectors uint16) {
		newBench(rand.New(rand.NewSource(seed)), int(sectors)%300).run(t, 300)
	})
}
