package commit_test

import (
	"bytes"
	"math/rand"
	"slices"
	"testing"

	"coffret/api"
	"coffret/commit"
	"coffret/disk"
	"coffret/meter"
	"coffret/seg"
	"coffret/vault"
)

// lived: a disk and a register behind some steps, the records that count, and all images of the disk on the way.
type lived struct {
	v      *vault.Vault
	d      *disk.Disk
	m      *meter.Meter
	l      *commit.Log
	list   []api.Record
	images [][]byte
}

// live some steps.
func live(t *testing.T, kind string, sectors int, steps ...step) *lived {
	t.Helper()
	x := &lived{d: disk.New(sectors)}
	x.v, _ = vaultOf(kind, 1000)
	x.m = meter.New(always, x.d)
	x.l = opens(t, x.v, x.d, x.m)
	x.images = [][]byte{x.d.Image()}
	for _, s := range steps {
		is(t, "step", s.do(x.l), api.OK)
		x.list = s.behind(x.list)
		x.images = append(x.images, x.d.Image())
	}
	return x
}

// lay an image, all its sectors, for good.
func (x *lived) lay(image []byte) {
	i := 0
	for b := range slices.Chunk(image, 256) {
		x.d.Forge(i, b)
		i++
	}
}

// counts: which bytes of the disk are of frames that count.
func (x *lived) counts() []bool {
	which := make([]bool, 256*x.d.Size())
	at := 256 * (x.m.Epoch % 2) * (x.d.Size() / 2)
	all := x.d.Image()
	for left := len(x.list); left > 0; {
		n := int(all[at]) + int(all[at+1])<<8
		left -= int(all[at+8]) + int(all[at+9])<<8
		for i := range n {
			which[at+i] = true
		}
		at += 256 * sectorsOf(n)
	}
	return which
}

// told: Open is ErrTamper, if a byte that counts is another one than in an image; else the records are those that count.
func (x *lived) told(t *testing.T, was []byte, which []bool) {
	t.Helper()
	now := x.d.Image()
	for i, b := range was {
		if which[i] && now[i] != b {
			refuses(t, x.v, x.d, x.m, api.ErrTamper)
			return
		}
	}
	opens(t, x.v, x.d, x.m, x.list...)
}

func TestAByteIsTurned(t *testing.T) { // P17.3: any one on the disk; and back again
	for _, kind := range kinds {
		x := live(t, kind, 23, life...)
		which, was := x.counts(), x.d.Image()
		for i := range was {
			b := bytes.Clone(was[i/256*256 : i/256*256+256])
			b[i%256] ^= 1 << (i % 8)
			x.d.Forge(i/256, b)
			x.told(t, was, which)
			x.d.Forge(i/256, was[i/256*256:i/256*256+256])
		}
		opens(t, x.v, x.d, x.m, x.list...)
	}
}

func TestElderSectors(t *testing.T) { // P17.3: sectors as they were, or as others are, in any place
	for _, kind := range kinds {
		x := live(t, kind, 23, append(slices.Clone(life), step{true, life[0].list}, life[1], life[2])...)
		which, was := x.counts(), x.d.Image()
		for _, image := range x.images {
			for i := range 23 {
				for from := range 23 {
					x.d.Forge(i, image[256*from:256*from+256])
					x.told(t, was, which)
				}
				x.d.Forge(i, was[256*i:256*i+256])
			}
			for half := range 2 { // the one that counts, and the one that doesn't
				x.lay(was)
				for i := 11 * half; i < 11*half+11; i++ {
					x.d.Forge(i, image[256*i:256*i+256])
				}
				x.told(t, was, which)
			}
			x.lay(was)
			for i := range 11 { // each half in the other one's place
				x.d.Forge(i, image[256*(i+11):256*(i+12)])
				x.d.Forge(i+11, image[256*i:256*i+256])
			}
			x.told(t, was, which)
			x.lay(image)
			x.told(t, was, which)
			x.lay(was)
			x.told(t, was, which)
		}
	}
}

func TestAnElderImage(t *testing.T) { // P17.3: at each time, each one ahead; and the image as it was changes nothing
	for _, kind := range kinds {
		for n := 1; n <= len(life); n++ {
			x := live(t, kind, 40, life[:n]...)
			now := x.d.Image()
			for _, image := range x.images[:n] {
				x.lay(image)
				refuses(t, x.v, x.d, x.m, api.ErrTamper)
				is(t, "Turn of the log that is open", x.l.Turn(tick(5)), api.OK) // it reads nothing
				opens(t, x.v, x.d, x.m, tick(5))
				x = live(t, kind, 40, life[:n]...)
			}
			x.lay(now)
			opens(t, x.v, x.d, x.m, x.list...)
		}
	}
}

func TestFramesThatAreGone(t *testing.T) { // P17.3: cut off, left out, twice, or in another order
	lists := [][]api.Record{{tick(1)}, {put(2, 20)}, {tick(3), tick(4)}, {tick(5)}}
	for _, kind := range kinds {
		x := live(t, kind, 20, step{true, lists[0]}, step{false, lists[1]}, step{false, lists[2]}, step{false, lists[3]})
		was := x.d.Image()
		frame := func(i int) []byte { return was[256*(10+i) : 256*(11+i)] }
		for n := range 5 * 5 * 5 * 5 {
			order := []int{n % 5, n / 5 % 5, n / 25 % 5, n / 125}
			for i, k := range order {
				x.d.Forge(10+i, frame(k)) // of noughts, behind the four frames
			}
			if slices.Equal(order, []int{0, 1, 2, 3}) {
				opens(t, x.v, x.d, x.m, x.list...)
				continue
			}
			refuses(t, x.v, x.d, x.m, api.ErrTamper)
		}
	}
}

func TestFramesOfAnotherKey(t *testing.T) { // P17.3: whoever has no key of the vault's makes none that count; nor does one who has, without the register
	for _, kind := range kinds {
		for _, key := range []vault.Key{{1, 2, 3}, {3, 2, 1}} {
			x := live(t, kind, 20, step{true, []api.Record{tick(1)}}, step{false, []api.Record{tick(2)}})
			v := vault.Real(key, 1000)
			if kind == "ideal" && key == (vault.Key{1, 2, 3}) {
				v = x.v
			}
			one, at, _ := seg.Pack(v, 1, 0, seg.Start(v, 1), tick(1))
			two, _, _ := seg.Pack(v, 1, 1, at, tick(9))
			other, _, _ := seg.Pack(v, 1, 0, seg.Start(v, 1), tick(9))
			was := x.d.Image()
			for _, list := range [][][]byte{{other}, {one, two}, {other, two}, {was[2560 : 2560+256], two}} {
				x.lay(was)
				for i, b := range list {
					x.d.Forge(10+i, b)
				}
				if bytes.Equal(x.d.Image(), was) {
					t.Fatal("nothing is forged")
				}
				refuses(t, x.v, x.d, x.m, api.ErrTamper)
			}
		}
	}
}

func TestBehindWhatCounts(t *testing.T) { // P17.3, P17.1: whatever stands there counts for nothing, frames that follow in the chain among them
	for _, kind := range kinds {
		x := live(t, kind, 20, life[:2]...)
		image := x.d.Image()
		is(t, "Turn", x.l.Turn(tick(1)), api.OK)
		at := x.m.Root
		b, _, e := seg.Pack(x.v, 2, 1, at, tick(2))
		is(t, "Pack", e, api.OK)
		x.d.Forge(1, b) // it would follow, if the register said so
		opens(t, x.v, x.d, x.m, tick(1))
		for i := 1; i < 20; i++ {
			x.d.Forge(i, bytes.Repeat([]byte{byte(i)}, 256))
		}
		stands(t, opens(t, x.v, x.d, x.m, tick(1)), 2, 9)
		x.lay(image)
		refuses(t, x.v, x.d, x.m, api.ErrTamper)
	}
}

func TestSomebodyWritesWhileTheLogIsOpen(t *testing.T) { // P17.3: the log goes on, and what was written is told, unless it is taken back, or written over
	for _, kind := range kinds {
		x := live(t, kind, 40, life[:2]...)
		was := x.d.Image()
		x.d.Forge(20, []byte("somebody"))
		is(t, "Commit", x.l.Commit(tick(8)), api.OK)
		refuses(t, x.v, x.d, x.m, api.ErrTamper)
		x.d.Off(0)
		x.d.Forge(20, was[256*20:256*21])
		x.d.On()
		x.l = opens(t, x.v, x.d, x.m, append(x.list, tick(8))...)
		x.d.Forge(0, []byte("somebody"))
		x.d.Forge(19, []byte("somebody"))
		is(t, "Turn", x.l.Turn(tick(1)), api.OK)
		x.d.Forge(1, []byte("somebody"))
		is(t, "Commit", x.l.Commit(tick(2)), api.OK)
		opens(t, x.v, x.d, x.m, tick(1), tick(2))
		x.d.Forge(1, []byte("somebody"))
		refuses(t, x.v, x.d, x.m, api.ErrTamper)
	}
}

func TestAnythingIsWritten(t *testing.T) { // P17.3: several sectors at once, of all images, behind lives that are made up
	for seed := range int64(60) {
		rnd := rand.New(rand.NewSource(seed))
		steps := []step{{true, []api.Record{tick(0)}}}
		for range rnd.Intn(12) {
			list := make([]api.Record, 1+rnd.Intn(3))
			for i := range list {
				list[i] = anyRecord(rnd)
			}
			steps = append(steps, step{rnd.Intn(4) == 0, list})
		}
		x := live(t, kinds[seed%2], 120, steps...)
		which, was := x.counts(), x.d.Image()
		for range 60 {
			for range 1 + rnd.Intn(4) {
				i, image := rnd.Intn(120), x.images[rnd.Intn(len(x.images))]
				if rnd.Intn(2) == 0 {
					i = 60*(x.m.Epoch%2) + rnd.Intn(10)
				}
				b := bytes.Clone(image[256*i : 256*i+256])
				if rnd.Intn(4) == 0 {
					b[rnd.Intn(256)] ^= byte(rnd.Intn(256))
				}
				x.d.Forge(i, b)
			}
			x.told(t, was, which)
			if rnd.Intn(3) == 0 {
				x.lay(was)
			}
		}
	}
}
