package disk_test

import (
	"fmt"
	"math"
	"testing"

	"coffret/api"
	"coffret/disk"
)

// spare is what stands behind a list that is handed in.
const spare = "SPARE ROOM"

// spoil writes over all of b, spare room included.
func spoil(b []byte) {
	b = b[:cap(b)]
	for i := range b {
		b[i] = '#'
	}
}

// putters: the calls that take bytes.
func putters(d *disk.Disk) map[string]func(i int, b []byte) api.Errno {
	return map[string]func(i int, b []byte) api.Errno{"Write": d.Write, "Forge": d.Forge}
}

func TestWhatIsHandedInIsNotChanged(t *testing.T) { // P11.3
	for _, length := range []int{0, 1, 5, 255, 256, 257, 300} {
		b := make([]byte, length, length+len(spare))
		for i := range b {
			b[i] = 'b'
		}
		whole := string(b) + spare
		copy(b[length:cap(b)], spare)
		d := disk.New(2)
		for name, put := range putters(d) {
			for _, i := range []int{0, 1, 2, -1} {
				put(i, b)
				d.Sync()
				put(i, b)
				d.Off(0)
				put(i, b)
				d.On()
				if all := string(b[:cap(b)]); all != whole {
					t.Fatalf("%s of %d bytes: %q", name, length, all)
				}
			}
		}
	}
}

func TestWhatIsHandedInIsNotKept(t *testing.T) { // P11.3: what is written into it later isn't seen, now or behind a loss of power
	for _, name := range []string{"Write", "Forge"} {
		for _, length := range []int{1, 5, 256} {
			d := disk.New(2)
			b := make([]byte, length, 300)
			for i := range b {
				b[i] = 'b'
			}
			want := string(b)
			is(t, name, putters(d)[name](0, b), api.OK)
			spoil(b)
			reads(t, name, d, 0, want)
			if image := string(d.Image()); image != padded(want)+padded("") {
				t.Errorf("%s: %s", name, short(image))
			}
			d.Off(math.MaxUint64)
			d.On()
			reads(t, name+", behind a loss of power", d, 0, want)
		}
	}
}

func TestWrittenOverBetweenWriteAndSync(t *testing.T) { // P11.3
	d := disk.New(3)
	b := make([]byte, 0, 300)
	for i := range 3 {
		b = fmt.Append(b[:0], "new ", i)
		is(t, "Write", d.Write(i, b), api.OK)
	}
	spoil(b)
	is(t, "Sync", d.Sync(), api.OK)
	spoil(b)
	isKept(t, d, 7)
	d.Off(0)
	isKept(t, d, 7)
}

func TestAnswersAreNewMemory(t *testing.T) { // P11.3: spoiling one changes no other one, nor the disk
	d := written(t, 2)
	for _, when := range []string{"new", "synced", "behind a loss of power", "forged"} {
		switch when {
		case "synced":
			d.Sync()
		case "behind a loss of power":
			d.Off(0)
			d.On()
		case "forged":
			d.Forge(0, []byte("new 0"))
		}
		one, _ := d.Read(0)
		two, _ := d.Read(0)
		image, again := d.Image(), d.Image()
		spoil(one)
		spoil(image)
		if string(two) != padded("new 0") || string(again) != padded("new 0")+padded("new 1") {
			t.Errorf("%s: two answers share memory: %s, %s", when, short(string(two)), short(string(again)))
		}
		reads(t, when, d, 0, "new 0")
		reads(t, when, d, 1, "new 1")
	}
	d.Off(0)
	isKept(t, d, 3)
}

func TestAnswersStayAsTheyAre(t *testing.T) { // P11.3: whatever the disk does behind them
	d := written(t, 2)
	b, _ := d.Read(0)
	image := d.Image()
	isStill := func(what string) {
		t.Helper()
		if string(b) != padded("new 0") || string(image) != padded("new 0")+padded("new 1") {
			t.Errorf("%s: %s, %s", what, short(string(b)), short(string(image)))
		}
	}
	d.Write(0, []byte("later"))
	isStill("Write")
	d.Sync()
	isStill("Sync")
	d.Write(0, []byte("lost"))
	d.Off(0)
	isStill("Off")
	d.Forge(0, []byte("forged"))
	isStill("Forge")
}

func TestAWriteOfWhatWasRead(t *testing.T) { // P11.3: bytes may go round through the disk
	d := written(t, 3)
	b, _ := d.Read(1)
	image := d.Image()
	is(t, "Write", d.Write(0, b), api.OK)
	is(t, "Forge", d.Forge(2, image[:256]), api.OK)
	spoil(b)
	spoil(image)
	d.Off(math.MaxUint64)
	d.On()
	reads(t, "written", d, 0, "new 1")
	reads(t, "as it was", d, 1, "new 1")
	reads(t, "forged", d, 2, "new 0")
}
