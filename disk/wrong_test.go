package disk_test

import (
	"fmt"
	"math"
	"strings"
	"testing"

	"coffret/api"
	"coffret/disk"
)

// noSectors of a disk of three.
var noSectors = []int{math.MinInt, -1 << 32, -256, -1, 3, 4, 256, 4095, 4096, 1 << 32, 1<<32 + 1, math.MaxInt}

// isAsItWas: what is refused changes nothing.
func isAsItWas(t *testing.T, what string, d *disk.Disk, call func()) {
	t.Helper()
	image, acts, down := string(d.Image()), d.Acts(), d.Down()
	call()
	if string(d.Image()) != image || d.Acts() != acts || d.Down() != down {
		t.Errorf("%s: %s, not %s, Acts %d, not %d, Down %t, not %t", what, short(string(d.Image())), short(image), d.Acts(), acts, d.Down(), down)
	}
}

// isNotRead: Read answers an error, and nothing besides.
func isNotRead(t *testing.T, what string, d *disk.Disk, i int, want api.Errno) {
	t.Helper()
	if b, e := d.Read(i); b != nil || e != want {
		t.Errorf("%s: sector %d: %s, %d, not %d", what, i, short(string(b)), e, want)
	}
}

func TestNoSuchSector(t *testing.T) { // P11.1
	d := written(t, 3)
	long := make([]byte, 300)
	for _, i := range noSectors {
		isAsItWas(t, "no such sector", d, func() {
			isNotRead(t, "no such sector", d, i, api.ErrArg)
			for _, b := range [][]byte{nil, []byte("text"), long} { // said ahead of what is too long
				is(t, fmt.Sprintf("Write(%d)", i), d.Write(i, b), api.ErrArg)
				is(t, fmt.Sprintf("Forge(%d)", i), d.Forge(i, b), api.ErrArg)
			}
		})
	}
	d.Off(5) // and the writes that aren't safe are as they were
	isKept(t, d, 5)
}

func TestTooLong(t *testing.T) { // P11.1
	d := written(t, 3)
	for _, length := range []int{257, 258, 512, 1 << 20} {
		b := []byte(strings.Repeat("x", length))
		isAsItWas(t, "too long", d, func() {
			is(t, "Write", d.Write(1, b), api.ErrLong)
			is(t, "Forge", d.Forge(1, b), api.ErrLong)
		})
	}
	d.Off(5)
	isKept(t, d, 5)
}

func TestWithoutPower(t *testing.T) { // P11.1: said ahead of what is wrong with a sector, or bytes
	d := written(t, 3)
	d.Off(3)
	long := make([]byte, 300)
	isAsItWas(t, "no power", d, func() {
		for _, i := range append([]int{0, 1, 2}, noSectors...) {
			isNotRead(t, "no power", d, i, api.ErrDown)
			for _, b := range [][]byte{nil, []byte("text"), long} {
				is(t, fmt.Sprintf("Write(%d)", i), d.Write(i, b), api.ErrDown)
			}
		}
		for range 3 {
			is(t, "Sync", d.Sync(), api.ErrDown)
			if goes, keep := d.Act(); goes || keep != 0 {
				t.Errorf("Act: %t, %x", goes, keep)
			}
		}
	})
	isKept(t, d, 3)
}

func TestForgedWithoutPower(t *testing.T) { // P11.1
	d := written(t, 3)
	d.Off(3)
	is(t, "Forge", d.Forge(2, []byte("forged")), api.OK)
	is(t, "Forge of no sector", d.Forge(3, make([]byte, 257)), api.ErrArg)
	is(t, "Forge of too many bytes", d.Forge(0, make([]byte, 257)), api.ErrLong)
	if !d.Down() || d.Acts() != 3 || string(d.Image()) != padded("new 0")+padded("new 1")+padded("forged") {
		t.Errorf("Down %t, Acts %d, %s", d.Down(), d.Acts(), short(string(d.Image())))
	}
	isNotRead(t, "forged", d, 2, api.ErrDown)
	d.On()
	reads(t, "forged", d, 2, "forged")
}

func TestFusesWithoutPower(t *testing.T) { // P11.1: what is no act ends in no fuse
	d := disk.New(3)
	d.Off(0)
	d.Arm(1, 9)
	for range 3 {
		if goes, keep := d.Act(); goes || keep != 0 {
			t.Errorf("Act: %t, %x", goes, keep)
		}
	}
	d.On()
	if goes, keep := d.Act(); !goes || keep != 9 {
		t.Errorf("Act with the power on: %t, %x", goes, keep)
	}
	if goes, keep := d.Act(); goes || keep != 0 {
		t.Errorf("Act behind it: %t, %x", goes, keep)
	}
}

func TestNoDisk(t *testing.T) { // P11.1
	var d *disk.Disk
	for range 2 {
		for _, i := range append([]int{0, 1}, noSectors...) {
			isNotRead(t, "no disk", d, i, api.ErrNil)
			for _, b := range [][]byte{nil, []byte("text"), make([]byte, 300)} {
				is(t, "Write", d.Write(i, b), api.ErrNil)
				is(t, "Forge", d.Forge(i, b), api.ErrNil)
			}
			d.Arm(i, 1)
		}
		is(t, "Sync", d.Sync(), api.ErrNil)
		if goes, keep := d.Act(); goes || keep != 0 {
			t.Errorf("Act: %t, %x", goes, keep)
		}
		if d.Size() != 0 || len(d.Image()) != 0 || d.Acts() != 0 || d.Down() {
			t.Errorf("Size %d, %d bytes, Acts %d, Down %t", d.Size(), len(d.Image()), d.Acts(), d.Down())
		}
		d.Off(1)
		d.On()
		d.Off(1)
	}
}

func TestNoSectors(t *testing.T) { // P11.1: a disk of none has its power, and its acts
	d := disk.New(0)
	isNotRead(t, "no sectors", d, 0, api.ErrArg)
	is(t, "Write", d.Write(0, nil), api.ErrArg)
	is(t, "Forge", d.Forge(0, nil), api.ErrArg)
	d.Arm(2, 3)
	is(t, "Sync", d.Sync(), api.OK)
	is(t, "Sync", d.Sync(), api.ErrDown)
	if !d.Down() || d.Acts() != 2 || len(d.Image()) != 0 {
		t.Errorf("Down %t, Acts %d, %d bytes", d.Down(), d.Acts(), len(d.Image()))
	}
	d.On()
	is(t, "Sync", d.Sync(), api.OK)
}
