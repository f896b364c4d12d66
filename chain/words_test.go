package chain_test

import (
	"bytes"
	"encoding/binary"
	"math"
	"math/rand"
	"testing"

	"coffret/api"
	"coffret/chain"
	"coffret/disk"
	"coffret/ideal"
	"coffret/seg"
	"coffret/vault"
)

// frame of so many bytes, 48 at least, as Length takes it: how many they are, and bytes that tell this frame from another.
func frame(length int, mark byte) []byte {
	b := binary.LittleEndian.AppendUint64(nil, uint64(length))
	for i := len(b); i < length; i++ {
		b = append(b, mark^byte(i)^byte(i>>8)|1)
	}
	return b
}

// told: so many bytes, which begin with a number.
func told(number, length int) []byte {
	b := bytes.Repeat([]byte{'t'}, max(length, 8))
	binary.LittleEndian.PutUint64(b, uint64(number))
	return b[:length]
}

// padded: bytes, and noughts up to the next sector.
func padded(b []byte) []byte {
	return append(bytes.Clone(b), make([]byte, (256-len(b)%256)%256)...)
}

// is: an error is the one that is wanted.
func is(t *testing.T, what string, e, want api.Errno) {
	t.Helper()
	if e != want {
		t.Fatalf("%s: %d, not %d", what, e, want)
	}
}

// adds frames, which have room.
func adds(t *testing.T, a *chain.Area, frames ...[]byte) {
	t.Helper()
	for i, f := range frames {
		if e := a.Add(f); e != api.OK {
			t.Fatalf("Add of frame %d, of %d bytes: %d", i, len(f), e)
		}
	}
}

// reads: Next answers frames, in order.
func reads(t *testing.T, a *chain.Area, frames ...[]byte) {
	t.Helper()
	for i, f := range frames {
		if b, e := a.Next(); e != api.OK || !bytes.Equal(b, f) {
			t.Fatalf("Next, of frame %d, of %d bytes: %d bytes, %d", i, len(f), len(b), e)
		}
	}
}

// ends: Next answers nothing, however often, and the last frame stays the same.
func ends(t *testing.T, a *chain.Area) {
	t.Helper()
	left := a.Left()
	for range 2 {
		if b, e := a.Next(); e != api.OK || len(b) != 0 || a.Left() != left {
			t.Fatalf("Next behind the last one: %d bytes, %d, %d left of %d", len(b), e, a.Left(), left)
		}
	}
}

// isLeft: so many sectors are.
func isLeft(t *testing.T, a *chain.Area, want int) {
	t.Helper()
	if n := a.Left(); n != want {
		t.Fatalf("%d sectors are left, not %d", n, want)
	}
}

// look: a disk's sectors, from one on, so many.
func look(d *disk.Disk, first, n int) []byte {
	return d.Image()[first*256 : (first+n)*256]
}

func TestExampleOfNineSectors(t *testing.T) { // P16.1: the areas have four each
	for _, epoch := range []int{0, 1, 2, 3} {
		d := disk.New(9)
		a := chain.Half(d, epoch)
		isLeft(t, a, 4)
		all := []byte{}
		for i := range 4 {
			f := frame(256, byte(i))
			adds(t, a, f)
			isLeft(t, a, 3-i)
			all = append(all, f...)
		}
		is(t, "the fifth", a.Add(frame(48, 9)), api.ErrFull)
		first := 4 * (epoch % 2)
		if !bytes.Equal(look(d, first, 4), all) {
			t.Errorf("epoch %d: other sectors", epoch)
		}
		if !bytes.Equal(look(d, 4-first, 4), make([]byte, 4*256)) || !bytes.Equal(look(d, 8, 1), make([]byte, 256)) {
			t.Errorf("epoch %d: sectors beside the area are written", epoch)
		}
	}
}

func TestHalvesOfDisksOfAnySectors(t *testing.T) { // P16.1, P16.2: as many sectors as half the disk's, down, each where it should be
	sizes := []int{-1, 127, 128, 129, 4093, 4094, 4095, 4096, 4097}
	for n := range 40 {
		sizes = append(sizes, n)
	}
	for _, n := range sizes {
		size := min(max(n, 0), 4096)
		for _, epoch := range []int{0, 1, 2, 3, 1 << 32, 1<<32 + 1, math.MaxInt, math.MaxInt - 1, -1, -2, -3, math.MinInt, math.MinInt + 1} {
			d := disk.New(n)
			a := chain.Half(d, epoch)
			half := size / 2
			isLeft(t, a, half)
			first := 0
			if uint64(epoch)&1 == 1 {
				first = half
			}
			want := make([]byte, size*256)
			left := half
			for left > 0 {
				k := min(left, 1+left%64)
				f := frame(k*256-left%200, byte(left))
				adds(t, a, f)
				copy(want[(first+half-left)*256:], f)
				left -= k
				isLeft(t, a, left)
			}
			is(t, "Add to a full area", a.Add(frame(48, 1)), api.ErrFull)
			if !bytes.Equal(d.Image(), want) {
				t.Fatalf("%d sectors, epoch %d: another image", n, epoch)
			}
			ends(t, a)
		}
	}
}

func TestFramesOfEachLength(t *testing.T) { // P16.1: from 48 to 16384 bytes, behind one another, with noughts up to the next sector
	d := disk.New(140)
	for length := 48; length <= 16384; length++ {
		a := chain.Half(d, length)
		first := 70 * (length % 2)
		ahead, f, behind := frame(300, 1), frame(length, 2), frame(200, 3)
		adds(t, a, ahead, f, behind)
		isLeft(t, a, 70-2-(length+255)/256-1)
		want := append(append(padded(ahead), padded(f)...), padded(behind)...)
		if !bytes.Equal(look(d, first, len(want)/256), want) {
			t.Fatalf("%d bytes: other sectors", length)
		}
		b := chain.Half(d, length)
		reads(t, b, ahead, f, behind)
		isLeft(t, b, a.Left())
	}
}

func TestNoughtsBehindAFrame(t *testing.T) { // P16.1: over what stood there before
	d := disk.New(8)
	for i := range 8 {
		d.Write(i, bytes.Repeat([]byte{'x'}, 256))
	}
	a := chain.Half(d, 1)
	f := frame(256+70, 1)
	adds(t, a, f)
	if !bytes.Equal(look(d, 4, 2), padded(f)) || !bytes.Equal(look(d, 6, 2), bytes.Repeat([]byte{'x'}, 512)) {
		t.Error("other sectors")
	}
}

func TestByRisingNumbers(t *testing.T) { // P16.1: each sector once, and those of the frame alone
	f := frame(5*256-10, 7)
	for kept := range 5 {
		d := disk.New(12)
		a := chain.Half(d, 1)
		adds(t, a, f)
		if d.Acts() != 5 {
			t.Fatalf("%d acts", d.Acts())
		}
		d.Off(1 << kept)
		d.On()
		want := make([]byte, 12*256)
		copy(want[(6+kept)*256:(6+kept+1)*256], padded(f)[kept*256:])
		if !bytes.Equal(d.Image(), want) {
			t.Errorf("the write %d isn't of the sector %d", kept, 6+kept)
		}
	}
}

func TestNothingIsSyncedByAdd(t *testing.T) { // P16.1: what is added isn't safe yet
	d := disk.New(8)
	a := chain.Half(d, 0)
	adds(t, a, frame(500, 1))
	d.Off(0)
	d.On()
	if !bytes.Equal(d.Image(), make([]byte, 8*256)) {
		t.Error("it is safe")
	}
	isLeft(t, a, 2) // the last frame is the one that was added, whatever became of it
	adds(t, a, frame(500, 2))
	ends(t, chain.Half(d, 0))
}

func TestNextIsNoAct(t *testing.T) { // P16.1: it writes nothing, and needs no sync
	d := disk.New(140)
	a := chain.Half(d, 0)
	adds(t, a, frame(500, 1), frame(16384, 2))
	acts, image := d.Acts(), d.Image()
	d.Arm(1, 0)
	b := chain.Half(d, 0)
	reads(t, b, frame(500, 1), frame(16384, 2))
	ends(t, b)
	if d.Acts() != acts || d.Down() || !bytes.Equal(d.Image(), image) {
		t.Error("it is an act, or writes")
	}
}

func TestAddAndNextByTurns(t *testing.T) { // P16.1: the last frame is the one that was added, or read, last
	d := disk.New(24)
	one, two, three, four := frame(48, 1), frame(300, 2), frame(600, 3), frame(256, 4)
	adds(t, chain.Half(d, 0), one, two, three)
	a := chain.Half(d, 0)
	reads(t, a, one)
	isLeft(t, a, 11)
	adds(t, a, four) // where two began
	isLeft(t, a, 10)
	ends(t, a) // behind it stands the end of two
	b := chain.Half(d, 0)
	reads(t, b, one, four)
	ends(t, b)
	adds(t, b, four, four)
	isLeft(t, b, 8)
	a = chain.Half(d, 0)
	reads(t, a, one, four, four, four)
	ends(t, a)
}

func TestTwoAreasOfOneDiskKnowOneAnotherBySectorsAlone(t *testing.T) { // P16.1
	d := disk.New(20)
	even, odd, evenToo := chain.Half(d, 0), chain.Half(d, 1), chain.Half(d, 2)
	adds(t, even, frame(600, 1))
	isLeft(t, even, 7)
	isLeft(t, odd, 10)
	isLeft(t, evenToo, 10)
	ends(t, odd)
	reads(t, evenToo, frame(600, 1))
	adds(t, evenToo, frame(100, 2))
	isLeft(t, even, 7)
	reads(t, even, frame(100, 2))
	isLeft(t, even, 6)
}

func TestDisksCallsAreTheAreas(t *testing.T) { // P16.1
	d := disk.New(9)
	a := chain.Half(d, 1)
	if a.Size() != 9 || a.Disk != d {
		t.Fatalf("%d sectors", a.Size())
	}
	is(t, "Write", a.Write(0, []byte("whole")), api.OK) // the disk's sectors, not the area's
	is(t, "Forge", a.Forge(8, []byte("disk")), api.OK)
	is(t, "Write", a.Write(9, nil), api.ErrArg)
	isLeft(t, a, 4)
	if b, e := a.Read(0); e != api.OK || !bytes.Equal(b, padded([]byte("whole"))) {
		t.Errorf("Read: %q, %d", b, e)
	}
	is(t, "Sync", a.Sync(), api.OK)
	if goes, keep := a.Act(); goes || keep != 0 || a.Acts() != 3 || d.Acts() != 3 {
		t.Errorf("%d acts", a.Acts())
	}
	a.Arm(1, 1)
	is(t, "the fuse", a.Add(frame(300, 1)), api.ErrDown)
	if !a.Down() || !d.Down() {
		t.Error("the power is on")
	}
	a.On()
	a.Off(0)
	if !d.Down() {
		t.Error("the power is on")
	}
	d.On()
	if !bytes.Equal(a.Image(), d.Image()) || !bytes.Equal(look(d, 4, 1), frame(300, 1)[:256]) {
		t.Error("another image")
	}
}

func TestFramesOfRecords(t *testing.T) { // P16.1, P16.2: sealed, added, read and unpacked
	for _, v := range []*vault.Vault{vault.Real(vault.Key{1}, 1000), vault.Ideal(ideal.New(), vault.Key{1}, 1000)} {
		rnd := rand.New(rand.NewSource(1))
		d := disk.New(200)
		a := chain.Half(d, 5)
		at := seg.Start(v, 5)
		var lists [][]api.Record
		left, seq := 100, 0
		for a.Left() > 4 {
			var list []api.Record
			for i := range 1 + rnd.Intn(4) {
				list = append(list, api.Record{Kind: api.RecPut, Queue: 1 + rnd.Intn(16), Id: i + 1, Body: string(make([]byte, rnd.Intn(100)))})
			}
			b, to, e := seg.Pack(v, 5, seq, at, list...)
			is(t, "Pack", e, api.OK)
			adds(t, a, b)
			left -= seg.Sectors(list...)
			isLeft(t, a, left)
			lists, at, seq = append(lists, list), to, seq+len(list)
		}
		is(t, "Sync", d.Sync(), api.OK)
		d.Off(0)
		d.On()
		a, at, seq = chain.Half(d, 7), seg.Start(v, 5), 0
		for i, list := range lists {
			b, _ := a.Next()
			got, to, e := seg.Unpack(v, 5, seq, at, b)
			if e != api.OK || len(got) != len(list) || got[0] != list[0] {
				t.Fatalf("frame %d: %d", i, e)
			}
			at, seq = to, seq+len(list)
		}
		ends(t, a)
	}
}
