package commit_test

import (
	"bytes"
	"math/rand"
	"slices"
	"strings"
	"testing"

	"coffret/api"
	"coffret/commit"
	"coffret/disk"
	"coffret/meter"
)

// saying: the same records, with Bodies of the same lengths that say something else.
func saying(list []api.Record, what byte) []api.Record {
	list = slices.Clone(list)
	for i, r := range list {
		list[i].Body = strings.Repeat(string(rune(what%128)), len(r.Body))
	}
	return list
}

// run: two of them are alike but for what Bodies say.
type run struct {
	what byte
	d    *disk.Disk
	m    *meter.Meter
	l    *commit.Log
	open func() ([]api.Record, api.Errno)
}

func newRun(what byte, sectors int) *run {
	x := &run{what: what, d: disk.New(sectors)}
	v, _ := vaultOf("ideal", 1000)
	x.m = meter.New(always, x.d)
	x.open = func() (list []api.Record, e api.Errno) {
		l, list, e := commit.Open(v, x.d, x.m)
		if e == api.OK {
			x.l = l
		}
		return list, e
	}
	return x
}

// alike: the same sectors, the same acts, and the same in the register.
func alike(t *testing.T, a, b *run) {
	t.Helper()
	if !bytes.Equal(a.d.Image(), b.d.Image()) || a.d.Acts() != b.d.Acts() || a.m.Value != b.m.Value || a.l.Left() != b.l.Left() {
		t.Fatal("what Bodies say is to be seen")
	}
}

func TestTheSameSectors(t *testing.T) { // P17.5: behind each call, with the power going, and sectors written by others
	for seed := range int64(100) {
		rnd := rand.New(rand.NewSource(seed))
		sectors := 20 + rnd.Intn(60)
		a, b := newRun('y', sectors), newRun('n', sectors)
		runs := []*run{a, b}
		var image []byte
		for range 100 {
			how, n, keep, sector := rnd.Intn(20), rnd.Intn(12), rnd.Uint64(), rnd.Intn(sectors)
			list := anyList(rnd)
			var answers [2]api.Errno
			var lists [2][]api.Record
			for k, x := range runs {
				switch {
				case x.l == nil || how == 0:
					x.d.On()
					lists[k], answers[k] = x.open()
				case how == 1:
					x.d.Arm(n, keep)
				case how == 2 && image != nil:
					x.d.Forge(sector, image[256*sector:256*sector+256])
				case how < 6:
					answers[k] = x.l.Turn(saying(list, x.what)...)
				default:
					answers[k] = x.l.Commit(saying(list, x.what)...)
				}
			}
			if answers[0] != answers[1] || !slices.Equal(saying(lists[0], 'z'), saying(lists[1], 'z')) {
				t.Fatalf("%d, %d", answers[0], answers[1])
			}
			alike(t, a, b)
			if answers[0] == api.ErrDown { // opened anew, and begun with what is opened
				for k, x := range runs {
					x.d.On()
					lists[k], answers[k] = x.open()
				}
			}
			if answers[0] == api.OK && len(lists[0]) > 0 {
				for k, x := range runs {
					answers[k] = x.l.Turn(lists[k]...)
				}
			}
			alike(t, a, b)
			if image == nil || rnd.Intn(10) == 0 {
				image = a.d.Image()
			}
		}
	}
}

func TestYesAndNo(t *testing.T) { // P17.5: what stands on the disk tells how long a Body is, and no more
	runs := []*run{newRun('y', 20), newRun('n', 20), newRun('y', 20)}
	for k, body := range []string{"yes", "no!", "yes!"} {
		x := runs[k]
		x.open()
		r := api.Record{Kind: api.RecPut, Queue: 1, Id: 1, Body: body}
		is(t, "Turn", x.l.Turn(tick(1)), api.OK)
		is(t, "Commit", x.l.Commit(r), api.OK)
		is(t, "Turn", x.l.Turn(r), api.OK)
	}
	alike(t, runs[0], runs[1])
	if bytes.Equal(runs[0].d.Image(), runs[2].d.Image()) {
		t.Error("two lengths aren't told from one another")
	}
}
