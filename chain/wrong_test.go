package chain_test

import (
	"bytes"
	"fmt"
	"math"
	"testing"

	"coffret/api"
	"coffret/chain"
	"coffret/disk"
)

// wrongBytes: bytes that are no frame's, by what is wrong with them.
func wrongBytes() map[string][]byte {
	list := map[string][]byte{
		"nil":                     nil,
		"none":                    {},
		"one":                     {1},
		"seven":                   frame(48, 1)[:7],
		"a number alone":          told(8, 8),
		"too short a frame":       told(47, 47),
		"too long a frame":        told(16385, 16385),
		"by far too long a frame": told(70000, 70000),
		"noughts":                 make([]byte, 256),
		"below 0":                 told(-100, 100),
		"the lowest":              told(math.MinInt, 100),
		"the highest":             told(math.MaxInt, 100),
		"no frame, a sector":      bytes.Repeat([]byte{'x'}, 256),
		"a frame, filled up":      append(frame(100, 1), make([]byte, 156)...),
		"two frames":              append(frame(100, 1), frame(100, 2)...),
		"more than a frame, long": append(frame(16384, 1), 0),
		"a frame's other bytes":   frame(100, 1)[1:],
		"a frame less its number": frame(100, 1)[8:],
		"another frame's number":  told(100+256, 100),
	}
	for _, n := range []int{48, 49, 111, 256, 257, 1000, 16384} {
		for _, off := range []int{-1, 1, 256} {
			list[fmt.Sprintf("%d told as %d", n+off, n)] = told(n, n+off)
		}
	}
	return list
}

// isAsItWas: neither the area nor its disk is changed by a call.
func isAsItWas(t *testing.T, what string, a *chain.Area, call func()) {
	t.Helper()
	left, image, acts, down := a.Left(), a.Image(), a.Acts(), a.Down()
	call()
	if a.Left() != left || a.Acts() != acts || a.Down() != down || !bytes.Equal(a.Image(), image) {
		t.Fatalf("%s: it isn't as it was", what)
	}
}

func TestNoFrame(t *testing.T) { // P16.1: with room, with too little, and with the power off: ErrArg is the first
	for what, b := range wrongBytes() {
		d := disk.New(200)
		full := chain.Half(d, 1)
		adds(t, full, frame(16384, 1), frame(36*256, 2))
		room := chain.Half(d, 0)
		adds(t, room, frame(700, 3))
		for range 2 {
			isAsItWas(t, what, room, func() { is(t, what, room.Add(b), api.ErrArg) })
			isAsItWas(t, what, full, func() { is(t, what, full.Add(b), api.ErrArg) })
			is(t, what, chain.Half(nil, 0).Add(b), api.ErrArg)
			d.Off(0)
		}
		d.On()
		adds(t, room, frame(48, 4))
	}
}

func TestThePowerIsOff(t *testing.T) { // P16.1: ErrDown is told ahead of ErrFull, and the area goes on behind it
	d := disk.New(20)
	a := chain.Half(d, 1)
	one, two := frame(300, 1), frame(2000, 2)
	adds(t, a, one, two)
	is(t, "Sync", d.Sync(), api.OK)
	b := chain.Half(d, 1)
	reads(t, b, one)
	d.Off(0)
	isAsItWas(t, "off", a, func() {
		is(t, "Add, without room", a.Add(frame(48, 3)), api.ErrDown)
	})
	isAsItWas(t, "off", b, func() {
		is(t, "Add, with room", b.Add(frame(48, 3)), api.ErrDown)
		is(t, "Add, without room", b.Add(frame(16384, 3)), api.ErrDown)
		f, e := b.Next()
		if len(f) != 0 {
			t.Errorf("%d bytes beside an error", len(f))
		}
		is(t, "Next", e, api.ErrDown)
	})
	_, e := a.Next()
	is(t, "Next, at the end", e, api.ErrDown)
	c := chain.Half(d, 1) // made without power
	isLeft(t, c, 10)
	d.On()
	is(t, "Add, without room", a.Add(frame(48, 3)), api.ErrFull)
	reads(t, b, two)
	reads(t, c, one, two)
	ends(t, c)
}

func TestNoRoom(t *testing.T) { // P16.1: of sectors, not bytes; a lesser frame has room yet
	for left := range 66 {
		d := disk.New(2 * (left + 3))
		for _, epoch := range []int{0, 1} {
			a := chain.Half(d, epoch)
			adds(t, a, frame(2*256+1, 1))
			isLeft(t, a, left)
			for _, more := range []int{1, 2, 256, 257, 2560} {
				if n := left*256 + more; n >= 48 && n <= 16384 {
					isAsItWas(t, "full", a, func() { is(t, "Add", a.Add(frame(n, 2)), api.ErrFull) })
				}
			}
			if left > 0 {
				adds(t, a, frame(min(left, 64)*256, 2))
				isLeft(t, a, max(left-64, 0))
			}
			reads(t, chain.Half(d, epoch), frame(2*256+1, 1))
		}
	}
}

func TestNilArea(t *testing.T) { // P16.1: ErrNil is told ahead of all
	var a *chain.Area
	isLeft(t, a, 0)
	is(t, "Add", a.Add(frame(100, 1)), api.ErrNil)
	for what, b := range wrongBytes() {
		is(t, what, a.Add(b), api.ErrNil)
	}
	b, e := a.Next()
	is(t, "Next", e, api.ErrNil)
	if len(b) != 0 {
		t.Error("bytes beside an error")
	}
}

func TestAreaWithoutSectors(t *testing.T) { // P16.1: of a disk of none, of one, and of no disk, which has none
	for _, d := range []*disk.Disk{nil, disk.New(0), disk.New(-5), disk.New(1)} {
		for epoch := range 4 {
			a := chain.Half(d, epoch)
			if a.Size() != d.Size() || a.Down() || a.Acts() != 0 {
				t.Error("the disk's calls aren't the area's")
			}
			isAsItWas(t, "no sectors", a, func() {
				isLeft(t, a, 0)
				is(t, "Add", a.Add(frame(48, 1)), api.ErrFull)
				is(t, "Add", a.Add(frame(16384, 1)), api.ErrFull)
				ends(t, a)
			})
		}
	}
	d := disk.New(1)
	d.Forge(0, frame(100, 1)) // the one that is in neither area
	ends(t, chain.Half(d, 0))
	ends(t, chain.Half(d, 1))
}

func TestRefusedLeavesTheFuse(t *testing.T) { // P16.1: what is refused is no act
	d := disk.New(4)
	a := chain.Half(d, 0)
	d.Arm(1, 0)
	is(t, "Add", a.Add(told(48, 100)), api.ErrArg)
	is(t, "Add", a.Add(frame(600, 1)), api.ErrFull)
	ends(t, a)
	if d.Down() || d.Acts() != 0 {
		t.Error("the power went")
	}
	is(t, "Add", a.Add(frame(300, 1)), api.ErrDown)
}
