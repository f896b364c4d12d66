package chain_test

import (
	"bytes"
	"math"
	"math/rand"
	"testing"

	"coffret/api"
	"coffret/chain"
	"coffret/disk"
)

// keeps: which writes may be kept.
func keeps(rnd *rand.Rand) []uint64 {
	return []uint64{0, 1, 2, math.MaxUint64, math.MaxUint64 - 1, 0x5555555555555555, rnd.Uint64(), rnd.Uint64()}
}

func TestSyncedFramesAreReadWhateverHappensToThePower(t *testing.T) { // P16.2: at each act of later frames, whichever writes are kept
	rnd := rand.New(rand.NewSource(1))
	safe := [][]byte{frame(300, 1), frame(48, 2), frame(512, 3), frame(700, 4)}
	later := [][]byte{frame(1000, 5), frame(60, 6), frame(513, 7)}
	for _, epoch := range []int{6, 7} {
		for n := range 12 {
			for _, keep := range keeps(rnd) {
				d := disk.New(41)
				other := chain.Half(d, epoch+1)
				adds(t, other, frame(3000, 8), frame(1500, 9))
				is(t, "Sync", d.Sync(), api.OK)
				a := chain.Half(d, epoch)
				adds(t, a, safe...)
				is(t, "Sync", d.Sync(), api.OK)
				was := d.Image()
				d.Arm(n, keep)
				for _, f := range later {
					a.Add(f)
				}
				d.Sync()
				d.Off(keep)
				d.On()
				b := chain.Half(d, epoch)
				reads(t, b, safe...)
				isLeft(t, b, 20-2-1-2-3)
				reads(t, chain.Half(d, epoch+1), frame(3000, 8), frame(1500, 9))
				for i := range 41 {
					mine := i < 40 && i/20 == epoch%2
					if now := look(d, i, 1); !mine && !bytes.Equal(now, was[i*256:(i+1)*256]) {
						t.Fatalf("the sector %d is written", i)
					}
				}
			}
		}
	}
}

func TestSyncedByTurns(t *testing.T) { // P16.2: frames synced one by one, with losses of power between, and areas that are made anew
	rnd := rand.New(rand.NewSource(2))
	for round := range 200 {
		d := disk.New(2*30 + round%2)
		var frames [][]byte
		for i := 0; ; i++ {
			a := chain.Half(d, round/2)
			reads(t, a, frames...)
			f := frame(48+rnd.Intn(1200), byte(i))
			if a.Left() < len(padded(f))/256 {
				is(t, "no room", a.Add(f), api.ErrFull)
				break
			}
			d.Arm(rnd.Intn(8), rnd.Uint64())
			if a.Add(f) == api.OK && d.Sync() == api.OK {
				frames = append(frames, f)
			}
			d.Off(rnd.Uint64())
			d.On()
		}
		if len(frames) < 3 {
			t.Errorf("round %d: %d frames", round, len(frames))
		}
	}
}

func TestThePowerGoesInAnAdd(t *testing.T) { // P16.1: it is told, the sectors ahead are written, and the area is as it was
	f := frame(5*256-10, 5)
	for n := 1; n <= 5; n++ {
		d := disk.New(30)
		a := chain.Half(d, 1)
		adds(t, a, frame(300, 1))
		is(t, "Sync", d.Sync(), api.OK)
		acts := d.Acts()
		d.Arm(n, math.MaxUint64)
		is(t, "Add", a.Add(f), api.ErrDown)
		isLeft(t, a, 13)
		if d.Acts() != acts+n {
			t.Errorf("%d acts, not %d", d.Acts()-acts, n)
		}
		want := make([]byte, 13*256)
		copy(want, padded(f)[:n*256])
		if !bytes.Equal(look(d, 17, 13), want) {
			t.Errorf("%d writes: other sectors", n)
		}
		d.On()
		isLeft(t, a, 13)
		adds(t, a, frame(600, 6)) // in the same place
		b := chain.Half(d, 1)
		reads(t, b, frame(300, 1), frame(600, 6))
	}
}

func TestTheFuseBehindAnAdd(t *testing.T) { // P16.1: an Add of n sectors is n acts, and no more
	for n := 1; n <= 5; n++ {
		d := disk.New(30)
		d.Arm(n+1, 0)
		a := chain.Half(d, 0)
		adds(t, a, frame(n*256, 1))
		is(t, "Sync", d.Sync(), api.ErrDown)
	}
}

func TestAFrameThatWasKeptInPart(t *testing.T) { // P16.1, P16.2: its bytes are what the disk has; those ahead of it are there
	f := frame(3*256, 3)
	for keep := range uint64(8) {
		d := disk.New(20)
		a := chain.Half(d, 0)
		adds(t, a, frame(100, 1))
		d.Sync()
		adds(t, a, f)
		d.Off(keep)
		d.On()
		want := make([]byte, 3*256)
		for i := range 3 {
			if keep>>i%2 == 1 {
				copy(want[i*256:], f[i*256:(i+1)*256])
			}
		}
		a = chain.Half(d, 0)
		reads(t, a, frame(100, 1))
		if keep%2 == 1 {
			reads(t, a, want)
		}
		ends(t, a)
	}
}
