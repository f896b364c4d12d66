package chain_test

import (
	"bytes"
	"testing"

	"coffret/api"
	"coffret/chain"
	"coffret/disk"
)

// roomy: a frame, and room behind it that is filled.
func roomy(length int, mark byte) (f, whole []byte) {
	b := append(frame(length, mark), "spare room"...)
	return b[:length], b
}

func TestAddNeitherChangesNorKeeps(t *testing.T) { // P16.1: spare room included; what is written into it behind the call isn't seen
	for _, length := range []int{48, 100, 255, 256, 257, 511, 512, 513, 16384} {
		d := disk.New(280)
		a := chain.Half(d, 1)
		f, whole := roomy(length, 1)
		was := bytes.Clone(whole)
		adds(t, a, f, f)
		d.Off(0)
		a.Add(f)
		d.On()
		if !bytes.Equal(whole, was) {
			t.Fatalf("%d bytes: what is handed in is changed", length)
		}
		a = chain.Half(d, 1)
		adds(t, a, f)
		clear(whole)
		reads(t, chain.Half(d, 1), was[:length])
		d.Sync()
		clear(whole)
		d.Off(0)
		d.On()
		reads(t, chain.Half(d, 1), was[:length])
	}
}

func TestNextsAreNewMemory(t *testing.T) { // P16.1: spoiling one changes no other one, nor the disk; nothing stands in room behind one
	for _, length := range []int{48, 100, 256, 257, 511, 512, 16384} {
		d := disk.New(280)
		adds(t, chain.Half(d, 0), frame(length, 1), frame(length, 2))
		a, b := chain.Half(d, 0), chain.Half(d, 2)
		one, _ := a.Next()
		again, _ := b.Next()
		two, _ := a.Next()
		if cap(one) != len(one) {
			t.Errorf("behind %d bytes is room for %d", length, cap(one)-len(one))
		}
		clear(one)
		_ = append(one, "spoilt"...)
		if !bytes.Equal(again, frame(length, 1)) || !bytes.Equal(two, frame(length, 2)) {
			t.Errorf("%d bytes: two answers share memory", length)
		}
		clear(two)
		reads(t, b, frame(length, 2))
		reads(t, chain.Half(d, 0), frame(length, 1), frame(length, 2))
		d.Forge(0, frame(100, 3))
		if !bytes.Equal(again, frame(length, 1)) {
			t.Errorf("%d bytes: an answer changes with the disk", length)
		}
	}
}

func TestWhatWasReadIsAdded(t *testing.T) { // P16.1: bytes may go round through the disk
	d := disk.New(24)
	adds(t, chain.Half(d, 0), frame(300, 1), frame(700, 2))
	from, to := chain.Half(d, 0), chain.Half(d, 1)
	for range 2 {
		b, e := from.Next()
		is(t, "Next", e, api.OK)
		adds(t, to, b)
		clear(b)
	}
	reads(t, chain.Half(d, 1), frame(300, 1), frame(700, 2))
	reads(t, chain.Half(d, 0), frame(300, 1), frame(700, 2))
}

func TestTwoDisksKnowNothingOfOneAnother(t *testing.T) { // P16.1
	c, d := disk.New(20), disk.New(20)
	a, b := chain.Half(c, 0), chain.Half(d, 0)
	adds(t, a, frame(300, 1))
	isLeft(t, b, 10)
	ends(t, b)
	d.Off(0)
	adds(t, a, frame(300, 2))
	d.On()
	adds(t, b, frame(900, 3))
	reads(t, chain.Half(c, 0), frame(300, 1), frame(300, 2))
	reads(t, chain.Half(d, 0), frame(900, 3))
}
