package commit_test

import (
	"bytes"
	"math/rand"
	"slices"
	"testing"

	"coffret/api"
	"coffret/commit"
	"coffret/disk"
	"coffret/meter"
	"coffret/vault"
)

// begun: what a log begins with, a few of the records that were opened: it hangs on these alone.
func begun(list []api.Record, n int) []api.Record {
	if len(list) == 0 {
		return []api.Record{tick(0)}
	}
	return slices.Clone(list[max(len(list)-n, 0):])
}

// once: no nonce sealed two texts.
func once(t *testing.T, v *vault.Vault) {
	t.Helper()
	if n := v.Clashes(); n != 0 {
		t.Fatalf("%d nonces sealed two texts", n)
	}
}

// careful: one whose logs begin with records that hang on what was opened alone, whatever happens.
type careful struct {
	rnd   *rand.Rand
	v     *vault.Vault
	d     *disk.Disk
	m     *meter.Meter
	few   int      // records of what was opened
	true  []byte   // the disk as it is when nobody else writes
	elder [][]byte // images
}

// open a log: where somebody wrote that it is told, what was there is laid first.
func (c *careful) open(t *testing.T) (*commit.Log, []api.Record) {
	t.Helper()
	c.d.On()
	l, list, e := commit.Open(c.v, c.d, c.m)
	if e == api.ErrTamper {
		for i := range c.d.Size() {
			c.d.Forge(i, c.true[256*i:256*i+256])
		}
		l, list, e = commit.Open(c.v, c.d, c.m)
	}
	is(t, "Open", e, api.OK)
	return l, list
}

// live with a log, from its first Turn on: till it tells an error other than that there is no room.
func (c *careful) live(t *testing.T, l *commit.Log, list []api.Record) {
	t.Helper()
	list = begun(list, c.few)
	e := l.Turn(list...)
	for e == api.OK && c.rnd.Intn(20) > 0 {
		some := []api.Record{anyRecord(c.rnd), anyRecord(c.rnd)}[:1+c.rnd.Intn(2)]
		switch e = l.Commit(some...); e {
		case api.OK:
			list = slices.Concat(list, some)
		case api.ErrFull, api.ErrSpent:
			list = begun(list, c.few) // with what the next log would begin with, too
			e = l.Turn(list...)
		}
	}
	if e != api.OK {
		is(t, "the life's end", e, api.ErrDown)
	}
}

// forge sectors: elder ones, or a byte of them turned.
func (c *careful) forge() {
	for range c.rnd.Intn(4) {
		i, image := c.rnd.Intn(c.d.Size()), c.elder[c.rnd.Intn(len(c.elder))]
		b := bytes.Clone(image[256*i : 256*i+256])
		if c.rnd.Intn(2) == 0 {
			b[c.rnd.Intn(256)] ^= 1
		}
		c.d.Forge(i, b)
	}
}

func TestOnce(t *testing.T) { // P17.4: the power goes at any time, sectors are written by others, and calls are refused
	for seed := range int64(100) {
		rnd := rand.New(rand.NewSource(seed))
		c := &careful{rnd: rnd, d: disk.New(2 * (10 + rnd.Intn(20))), few: 1 + rnd.Intn(4)}
		c.v, _ = vaultOf(kinds[seed%2], pick(rnd, 10, 30, 1000))
		c.m = meter.New(always, c.d)
		for range 40 {
			l, list := c.open(t)
			if rnd.Intn(2) == 0 {
				c.d.Arm(1+rnd.Intn(20), rnd.Uint64())
			}
			is(t, "Commit ahead of a Turn", l.Commit(tick(rnd.Intn(100))), api.ErrArg)
			if e := l.Turn(append(filled(256*30), anyRecord(rnd))...); e != api.ErrFull && e != api.ErrSpent {
				t.Fatalf("Turn that there is no room for: %d", e)
			}
			c.live(t, l, list)
			if rnd.Intn(3) == 0 {
				c.d.Off(rnd.Uint64())
			}
			once(t, c.v)
			c.true = c.d.Image()
			c.elder = append(c.elder, c.true)
			c.forge()
		}
	}
}

func TestARefusedCallSealsNothing(t *testing.T) { // P17.4: the numbers of a Turn, or a Commit, that was refused are another one's
	for _, kind := range kinds {
		v, _ := vaultOf(kind, 100)
		d := disk.New(20)
		m := meter.New(4, d)
		l := opens(t, v, d, m)
		is(t, "Turn", l.Turn(filled(256*11)...), api.ErrFull)
		is(t, "Turn", l.Turn(tick(1), tick(-1)), api.ErrArg)
		is(t, "Turn", l.Turn(slices.Repeat([]api.Record{tick(1)}, 101)...), api.ErrSpent)
		is(t, "Commit", l.Commit(tick(2)), api.ErrArg)
		is(t, "Turn", l.Turn(tick(3), tick(4)), api.OK)
		once(t, v)
		is(t, "Commit", l.Commit(filled(256*10)...), api.ErrFull)
		is(t, "Commit", l.Commit(filled(16385)...), api.ErrLong)
		is(t, "Commit", l.Commit(tick(5), tick(-1)), api.ErrArg)
		is(t, "Commit", l.Commit(slices.Repeat([]api.Record{tick(5)}, 99)...), api.ErrSpent)
		d.Off(0)
		is(t, "Commit", l.Commit(tick(5)), api.ErrDown)
		is(t, "Turn", l.Turn(tick(5)), api.ErrDown)
		d.On()
		l = opens(t, v, d, m, tick(3), tick(4))
		is(t, "Turn", l.Turn(tick(6)), api.OK)
		is(t, "Commit", l.Commit(tick(7)), api.OK)
		once(t, v)
		is(t, "Turn", l.Turn(tick(8)), api.OK)
		is(t, "Turn", l.Turn(tick(9)), api.ErrSpent)
		is(t, "Commit", l.Commit(tick(9)), api.ErrSpent)
		once(t, v)
	}
}

func TestALogThatThePowerWentIn(t *testing.T) { // P17.4: whatever it is asked behind that, it seals nothing any more, nor does it write
	for _, kind := range kinds {
		for _, s := range []step{{true, []api.Record{tick(3), put(4, 500)}}, {false, []api.Record{put(5, 500)}}} {
			for n := 1; n <= s.acts(); n++ {
				for _, keep := range []uint64{0, 1, 1 << 63, 1<<64 - 1} {
					v, w := vaultOf(kind, 100)
					d := disk.New(20)
					m := meter.New(always, d)
					l := opens(t, v, d, m)
					is(t, "Turn", l.Turn(tick(1)), api.OK)
					is(t, "Commit", l.Commit(tick(2)), api.OK)
					d.Arm(n, keep)
					is(t, "step", s.do(l), api.ErrDown)
					d.On()
					acts, value, image, things := d.Acts(), m.Value, d.Image(), w.Size()
					if l.Turn(tick(6), tick(7)) == api.OK || l.Commit(tick(8)) == api.OK {
						t.Fatal("it goes on")
					}
					if d.Acts() != acts || m.Value != value || !bytes.Equal(d.Image(), image) || w.Size() != things {
						t.Fatal("something is changed")
					}
					once(t, v)
				}
			}
		}
	}
}

func TestLogsOfOneDisk(t *testing.T) { // P17.4: of those opened ahead of the last one nothing is promised, but no number of theirs seals two texts
	for seed := range int64(100) {
		rnd := rand.New(rand.NewSource(seed))
		v, _ := vaultOf(kinds[seed%2], 1000)
		d := disk.New(60)
		m := meter.New(always, d)
		is(t, "Turn", opens(t, v, d, m).Turn(tick(0)), api.OK)
		var logs []*commit.Log
		for range 60 {
			l, list, e := commit.Open(v, d, m)
			if e == api.OK && rnd.Intn(4) == 0 {
				if e = l.Turn(begun(list, 3)...); e == api.OK || rnd.Intn(2) == 0 {
					logs = append(logs, l)
				}
			}
			if len(logs) > 0 {
				l = logs[rnd.Intn(len(logs))]
				l.Commit(anyRecord(rnd))
				if rnd.Intn(4) == 0 {
					l.Turn(anyRecord(rnd))
				}
			}
			once(t, v)
		}
	}
}
