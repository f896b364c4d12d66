package seg_test

import (
	"bytes"
	"math"
	"math/rand"
	"slices"
	"strings"
	"testing"

	"coffret/api"
	"coffret/ideal"
	"coffret/record"
	"coffret/seg"
	"coffret/vault"
)

// refuses a list with an error, and noughts beside it.
func (m made) refuses(t *testing.T, want api.Errno, epoch, seq int, list ...api.Record) {
	t.Helper()
	b, d, e := m.packs(t, epoch, seq, digest{7}, list...)
	if e != want || len(b) != 0 || d != (digest{}) {
		t.Errorf("%s: Pack of %d records at %d, %d: %d, not %d; %x, %x", m.what, len(list), epoch, seq, e, want, b, d)
	}
}

// rejects bytes with an error, and noughts beside it.
func (m made) rejects(t *testing.T, want api.Errno, epoch, seq int, at digest, b []byte) {
	t.Helper()
	list, d, e := m.unpacks(t, epoch, seq, at, b)
	if e != want || len(list) != 0 || d != (digest{}) {
		t.Errorf("%s: Unpack of %d bytes at %d, %d: %d, not %d; %v, %x", m.what, len(b), epoch, seq, e, want, list, d)
	}
}

// bad: a record that can't be.
func bad() api.Record {
	return api.Record{Kind: api.RecTick, Num: -1}
}

func TestNoRecords(t *testing.T) { // P15.1: ErrArg, and the head stays what it is; whatever the numbers
	rnd := rand.New(rand.NewSource(1))
	for _, m := range vaults(3) {
		for _, n := range []int{0, 1, 3, -1, 1 << 32, math.MinInt, math.MaxInt} {
			at := anyHead(rnd)
			for _, list := range [][]api.Record{nil, {}} {
				b, d, e := m.packs(t, n, -n, at, list...)
				if len(b) != 0 || d != at || e != api.ErrArg {
					t.Errorf("%s: %x, %x, %d", m.what, b, d, e)
				}
			}
		}
	}
}

func TestARecordThatCannotBe(t *testing.T) { // P15.1: ErrArg, wherever it stands
	wrong := []api.Record{
		{}, bad(), {Kind: 14}, {Kind: -1}, {Kind: 256 + api.RecTick}, {Kind: api.RecTick, Queue: 1}, {Kind: api.RecDrop}, {Kind: api.RecDrop, Queue: 17},
		{Kind: api.RecTick, Body: "a"}, withBody(0, 1, ""), withBody(17, 1, ""), withBody(-1, 1, ""), withBody(1, 0, ""), withBody(1, 1, strings.Repeat("x", 513)), withBody(1, 1, strings.Repeat("x", 1<<17)),
	}
	for _, m := range both(300) {
		for _, r := range wrong {
			for _, n := range []int{0, 1, 5, 258} {
				list := append(ticks(n), r)
				m.refuses(t, api.ErrArg, 1, 0, list...)
				m.refuses(t, api.ErrArg, 1, 0, append(list, ticks(300)...)...)
			}
		}
	}
}

func TestMoreThanAFrameHasRoomFor(t *testing.T) { // P15.1: ErrLong, from the first byte too many on
	full := append(ticks(258), withBody(1, 1, strings.Repeat("y", 19)))
	more := append(ticks(258), withBody(1, 1, strings.Repeat("y", 20)))
	for _, m := range both(2000) {
		b, _, e := m.packs(t, 1, 0, digest{7}, full...)
		if e != api.OK || len(b) != 16384 || seg.Sectors(full...) != 64 {
			t.Errorf("%s: a full frame: %d, %d bytes", m.what, e, len(b))
		}
		if list, _, e := m.unpacks(t, 1, 0, digest{7}, b); e != api.OK || !slices.Equal(list, full) {
			t.Errorf("%s: a full frame: %d", m.what, e)
		}
		m.refuses(t, api.ErrLong, 1, 0, more...)
		m.refuses(t, api.ErrLong, 1, 0, ticks(260)...)
		m.refuses(t, api.ErrLong, 1, 0, ticks(1000)...)
		m.refuses(t, api.ErrLong, 1, 0, bodies(29, 512)...)
		m.refuses(t, api.ErrLong, 1, 0, append(full, ticks(1)...)...)
	}
}

func TestTheVaultsErrors(t *testing.T) { // P15.1: a nil vault, numbers that can't be, and spent ones
	for _, m := range both(10) {
		for _, n := range []int{-1, -2, -1 << 32, math.MinInt} {
			m.refuses(t, api.ErrArg, n, 0, ticks(1)...)
			m.refuses(t, api.ErrArg, 0, n, ticks(2)...)
			m.refuses(t, api.ErrArg, n, n, ticks(1)...)
		}
		for _, n := range []int{1 << 32, 1<<32 + 1, math.MaxInt} {
			m.refuses(t, api.ErrSpent, n, 0, ticks(1)...)
		}
		for _, n := range []int{10, 11, 1 << 32, math.MaxInt - 1, math.MaxInt} {
			m.refuses(t, api.ErrSpent, 0, n, ticks(1)...)
			m.refuses(t, api.ErrSpent, 0, n, ticks(3)...)
		}
		m.refuses(t, api.ErrSpent, 0, 9, ticks(2)...)
		m.refuses(t, api.ErrSpent, 0, 0, ticks(11)...)
		if _, _, e := m.packs(t, 1<<32-1, 9, digest{}, ticks(1)...); e != api.OK {
			t.Errorf("%s: the last number of the last epoch: %d", m.what, e)
		}
		if _, _, e := m.packs(t, 0, 0, digest{}, ticks(10)...); e != api.OK {
			t.Errorf("%s: all numbers: %d", m.what, e)
		}
	}
	for _, limit := range []int{0, -1, math.MinInt} {
		for _, m := range both(limit) {
			m.refuses(t, api.ErrSpent, 0, 0, ticks(1)...)
		}
	}
	for _, m := range both(math.MaxInt) {
		m.refuses(t, api.ErrSpent, 0, math.MaxInt, ticks(2)...)
		m.refuses(t, api.ErrSpent, 0, math.MaxInt-2, ticks(3)...)
		if b, _, e := m.packs(t, 0, math.MaxInt-2, digest{}, ticks(2)...); e != api.OK {
			t.Errorf("%s: the last numbers: %d", m.what, e)
		} else if _, _, e := m.unpacks(t, 0, math.MaxInt-2, digest{}, b); e != api.OK {
			t.Errorf("%s: the last numbers: %d", m.what, e)
		}
	}
	nilOne().refuses(t, api.ErrNil, 0, 0, ticks(1)...)
	nilOne().refuses(t, api.ErrNil, -1, -1, ticks(300)...)
	nilOne().refuses(t, api.ErrArg, 0, 0, bad())
	if b, d, e := seg.Pack(vault.Ideal(nil, vault.Key{1}, 9), 0, 0, digest{7}, ticks(1)...); b != nil || d != (digest{}) || e != api.ErrNil {
		t.Errorf("of no world: %x, %x, %d", b, d, e)
	}
}

func TestTheFirstErrorMetIsTold(t *testing.T) { // P15.1: record by record; of each first that it can't be, then that there is no room, then the vault's
	for _, m := range both(5) {
		m.refuses(t, api.ErrArg, 0, 5, bad())                        // it can't be; spent, too
		m.refuses(t, api.ErrArg, 0, 4, append(ticks(1), bad())...)   // the second one: both
		m.refuses(t, api.ErrSpent, 0, 5, append(ticks(1), bad())...) // the first one is met first
		m.refuses(t, api.ErrSpent, 0, 3, append(ticks(3), bad())...) // the third one
		m.refuses(t, api.ErrArg, 0, 3, append(ticks(2), bad())...)   // the third one: both
		m.refuses(t, api.ErrSpent, 0, 0, bodies(29, 512)...)         // ahead of the 29th
		m.refuses(t, api.ErrArg, 0, 0, slices.Concat(ticks(2), []api.Record{bad()}, bodies(29, 512))...)
		m.refuses(t, api.ErrArg, -1, 0, append(ticks(1), bad())...)
		m.refuses(t, api.ErrArg, 0, 0, append(ticks(4), withBody(1, 1, strings.Repeat("x", 20000)))...) // not ErrLong
	}
	for _, m := range both(28) {
		m.refuses(t, api.ErrLong, 0, 0, bodies(29, 512)...) // the 29th: spent, too
		m.refuses(t, api.ErrSpent, 0, 1, bodies(29, 512)...)
		m.refuses(t, api.ErrArg, 0, 0, append(bodies(28, 512), withBody(1, 0, strings.Repeat("x", 512)))...) // the 29th: it can't be, nor has it room
		m.refuses(t, api.ErrLong, 0, 0, append(bodies(29, 512), bad())...)
		m.refuses(t, api.ErrArg, 0, 0, slices.Concat(bodies(27, 512), []api.Record{bad()}, bodies(2, 512))...)
	}
}

func TestRecordsAreSealedOneBehindTheOther(t *testing.T) { // P15.1: those ahead of an error are, those behind it aren't
	for _, m := range both(10) {
		m.refuses(t, api.ErrArg, 1, 0, append(ticks(2), bad(), withBody(1, 1, ""))...)
		m.refuses(t, api.ErrArg, 1, 0, append(ticks(2), bad())...) // there are three now: each is sealed with the same text as ahead
		if n := m.v.Clashes(); n != 0 {
			t.Errorf("%s: %d clashes", m.what, n)
		}
		tock := api.Record{Kind: api.RecTick, Num: 99}
		m.packs(t, 1, 0, digest{}, tock)
		if n := m.v.Clashes(); n != 1 {
			t.Errorf("%s: the first one: %d clashes", m.what, n)
		}
		m.packs(t, 1, 1, digest{}, tock)
		if n := m.v.Clashes(); n != 2 {
			t.Errorf("%s: the second one: %d clashes", m.what, n)
		}
		m.packs(t, 1, 3, digest{}, withBody(1, 1, "a"))
		if n := m.v.Clashes(); n != 2 {
			t.Errorf("%s: the fourth one: %d clashes", m.what, n)
		}
	}
}

// forged: the frame of these queues and texts, sealed as they should be, whatever they are.
func (m made) forged(epoch, seq int, at digest, queues []int, texts [][]byte) []byte {
	return m.frameOf(queues, m.sealed(epoch, seq, at, queues, texts))
}

// bytesOf records.
func bytesOf(list ...api.Record) [][]byte {
	var texts [][]byte
	for _, r := range list {
		b, e := record.Put(r)
		if e != api.OK {
			panic("a record that can't be")
		}
		texts = append(texts, b)
	}
	return texts
}

// turned: a copy of bytes with those from a place on written over.
func turned(b []byte, at int, over []byte) []byte {
	c := bytes.Clone(b)
	copy(c[at:], over)
	return c
}

func TestBytesThatAreNoFrame(t *testing.T) { // P15.1: ErrForm, whatever else
	rnd := rand.New(rand.NewSource(2))
	for _, m := range vaults(10) {
		for n := range 300 {
			b := make([]byte, n)
			m.rejects(t, api.ErrForm, 0, 0, digest{}, b)
			rnd.Read(b)
			m.rejects(t, api.ErrForm, 0, 0, digest{}, b)
			if n >= 8 {
				m.rejects(t, api.ErrForm, 0, 0, digest{}, turned(b, 0, num(n)))
			}
			if n >= 16 {
				m.rejects(t, api.ErrForm, -1, 99, digest{}, turned(b, 0, num(n, 1+n%3)))
			}
		}
		m.rejects(t, api.ErrForm, 0, 0, digest{}, nil)
		m.rejects(t, api.ErrForm, -1, -1, digest{}, []byte{})
	}
}

func TestAnotherLength(t *testing.T) { // P15.1: ErrForm; bytes behind a frame, or fewer than it has
	for _, m := range both(10) {
		b, _, _ := m.packs(t, 1, 0, digest{7}, bodies(3, 40)...)
		for n := range len(b) {
			m.rejects(t, api.ErrForm, 1, 0, digest{7}, b[:n])
			if n >= 8 {
				m.rejects(t, api.ErrForm, 1, 0, digest{7}, turned(b[:n], 0, num(n)))
			}
		}
		for _, behind := range []int{1, 2, 63, 256} {
			longer := append(bytes.Clone(b), make([]byte, behind)...)
			if seg.Length(longer) != len(b) {
				t.Errorf("%s: %d bytes more: its length is %d", m.what, behind, seg.Length(longer))
			}
			m.rejects(t, api.ErrForm, 1, 0, digest{7}, longer)
			m.rejects(t, api.ErrForm, 1, 0, digest{7}, turned(longer, 0, num(len(longer))))
		}
	}
}

func TestAnotherNumberOfRecords(t *testing.T) { // P15.1: ErrForm, if it isn't from 1 to 260, or the frame's
	for _, m := range both(10) {
		b, _, _ := m.packs(t, 1, 0, digest{7}, bodies(3, 40)...)
		for _, n := range []int{0, 1, 2, 4, 5, 259, 260, 261, 1000, 1 << 32, 1<<32 + 3, math.MaxInt, -1, -3, math.MinInt, math.MinInt + 3} {
			m.rejects(t, api.ErrForm, 1, 0, digest{7}, turned(b, 8, num(n)))
		}
	}
}

// parts of a frame whose seals are empty: so many, each of 11 bytes.
func emptySeals(m made, n int) []byte {
	return m.frameOf(make([]int, n), make([][]byte, n))
}

func TestTheFormGoesAheadOfTheSeals(t *testing.T) { // P15.1: up to 260 records have the form, though fewer have room with their seals
	for _, m := range both(10) {
		m.rejects(t, api.ErrSeal, 1, 0, digest{7}, emptySeals(m, 1))
		m.rejects(t, api.ErrSeal, 1, 0, digest{7}, emptySeals(m, 259))
		m.rejects(t, api.ErrSeal, 1, 0, digest{7}, emptySeals(m, 260))
		m.rejects(t, api.ErrForm, 1, 0, digest{7}, emptySeals(m, 261))
		m.rejects(t, api.ErrForm, 1, 0, digest{7}, emptySeals(m, 1000))
		none := m.hash([]byte{0x30})
		m.rejects(t, api.ErrForm, 1, 0, digest{7}, append(num(48, 0), none[:]...))
		m.rejects(t, api.ErrForm, 1, 0, digest{7}, append(num(48, 1), none[:]...))
	}
}

func TestSealsOfAnyLength(t *testing.T) { // P15.1: a seal is opened, however long it is; a frame of 16385 bytes has no length
	for _, m := range both(10) {
		for _, n := range []int{0, 1, 15, 16, 17, 35 + 16, 36 + 16, 564, 565, 1000, 65536 - 65000, 16384 - 48 - 11} {
			junk := bytes.Repeat([]byte{5}, n)
			m.rejects(t, api.ErrSeal, 1, 0, digest{7}, m.frameOf([]int{0}, [][]byte{junk}))
			if n >= 16 {
				m.rejects(t, api.ErrForm, 1, 0, digest{7}, m.forged(1, 0, digest{7}, []int{0}, [][]byte{junk[16:]}))
			}
		}
		m.rejects(t, api.ErrForm, 1, 0, digest{7}, m.frameOf([]int{0}, [][]byte{make([]byte, 16384-48-10)}))
	}
}

func TestAnotherRoot(t *testing.T) { // P15.1: ErrForm, ahead of what the seals are
	for _, m := range both(10) {
		b, _, _ := m.packs(t, 1, 0, digest{7}, bodies(3, 40)...)
		junk := m.frameOf([]int{0}, [][]byte{{1, 2, 3}})
		m.rejects(t, api.ErrSeal, 1, 0, digest{7}, junk)
		m.rejects(t, api.ErrSpent, 1, 10, digest{7}, junk)
		for bit := range 256 {
			for _, frame := range [][]byte{b, junk} {
				c := bytes.Clone(frame)
				c[len(c)-32+bit/8] ^= 1 << (bit % 8)
				m.rejects(t, api.ErrForm, 1, 0, digest{7}, c)
				m.rejects(t, api.ErrForm, 1, 10, digest{7}, c)
				m.rejects(t, api.ErrForm, -1, 0, digest{7}, c)
			}
		}
		for _, other := range []digest{{}, m.hash([]byte{0x30}), m.hash(bytesOf(bodies(1, 40)...)[0]), m.root(bytesOf(bodies(3, 40)...))} {
			m.rejects(t, api.ErrForm, 1, 0, digest{7}, turned(b, len(b)-32, other[:]))
		}
	}
}

func TestAQueueThatCannotBe(t *testing.T) { // P15.1: ErrForm, if it isn't from 0 to 16, ahead of what the seals are
	for _, m := range both(10) {
		for place := range 3 {
			for _, n := range []int{-2, -1, 0, 1, 2, 16, 17, 18, 255, 256, 1 << 32, 1<<32 + 1, math.MaxInt, math.MinInt, math.MinInt + 1} {
				queues := []int{1, 2, 3}
				texts := bytesOf(bodies(3, 40)...)
				seals := m.sealed(1, 0, digest{7}, queues, texts)
				queues[place] = n
				want := api.ErrForm
				if n >= 0 && n <= 16 && n != place+1 {
					want = api.ErrSeal
				}
				if n != place+1 {
					m.rejects(t, want, 1, 0, digest{7}, m.frameOf(queues, seals))
				}
				seals[0] = []byte("none")
				if n < 0 || n > 16 {
					m.rejects(t, api.ErrForm, 1, 0, digest{7}, m.frameOf(queues, seals))
				}
			}
		}
	}
}

func TestSealsOfOtherThings(t *testing.T) { // P15.1: ErrForm, if what is opened is no record's bytes, or one's of another queue
	tick := bytesOf(ticks(1)...)[0]
	put := bytesOf(withBody(3, 1, "abc"))[0]
	long := append(bytes.Clone(put[:33]), text(bytes.Repeat([]byte{'x'}, 513))...)
	for _, m := range both(10) {
		for _, x := range []struct {
			queue int
			text  []byte
			want  api.Errno
		}{
			{0, tick, api.OK},
			{3, put, api.OK},
			{1, tick, api.ErrForm},
			{16, tick, api.ErrForm},
			{0, put, api.ErrForm},
			{2, put, api.ErrForm},
			{4, put, api.ErrForm},
			{3, put[:len(put)-1], api.ErrForm},
			{3, append(bytes.Clone(put), 0), api.ErrForm},
			{3, nil, api.ErrForm},
			{0, make([]byte, 36), api.ErrForm},
			{3, turned(put, 0, []byte{14}), api.ErrForm},
			{3, turned(put, 33, []byte{4}), api.ErrForm},
			{3, long, api.ErrForm},
		} {
			alone := m.forged(1, 0, digest{7}, []int{x.queue}, [][]byte{x.text})
			third := m.forged(1, 0, digest{7}, []int{0, 3, x.queue}, [][]byte{tick, put, x.text})
			for _, b := range [][]byte{alone, third} {
				list, d, e := m.unpacks(t, 1, 0, digest{7}, b)
				if e != x.want || (e == api.OK) != (len(list) > 0) || (e == api.OK) != (d != digest{}) {
					t.Errorf("%s: %x in the queue %d: %d, not %d", m.what, x.text, x.queue, e, x.want)
				}
			}
		}
	}
}

func TestTheFirstErrorMetOfRecordsIsTold(t *testing.T) { // P15.1: record by record, the vault's ahead of its form; what is behind isn't asked
	tick := bytesOf(ticks(1)...)[0]
	for _, m := range both(5) {
		at := digest{7}
		good := func(i, n int) []byte { return m.seal(m.key(0), nonce(1, 3+i), tick, besides(at, i, n)) }
		wrong := func(i, n int) []byte { return m.seal(m.key(0), nonce(1, 3+i), []byte("no record"), besides(at, i, n)) }
		closed := []byte("a seal of nobody")
		zero := []int{0, 0, 0}
		m.rejects(t, api.ErrForm, 1, 3, at, m.frameOf(zero[:2], [][]byte{wrong(0, 2), closed}))
		m.rejects(t, api.ErrSeal, 1, 3, at, m.frameOf(zero[:2], [][]byte{closed, wrong(1, 2)}))
		m.rejects(t, api.ErrForm, 1, 3, at, m.frameOf(zero, [][]byte{good(0, 3), wrong(1, 3), closed}))
		m.rejects(t, api.ErrSeal, 1, 3, at, m.frameOf(zero, [][]byte{good(0, 3), closed, closed})) // the third one's number is spent
		m.rejects(t, api.ErrSpent, 1, 3, at, m.frameOf(zero, [][]byte{good(0, 3), good(1, 3), closed}))
		m.rejects(t, api.ErrForm, 1, 3, at, m.frameOf([]int{0, 17, 0}, [][]byte{closed, closed, closed}))
		if _, _, e := m.unpacks(t, 1, 3, at, m.frameOf(zero[:2], [][]byte{good(0, 2), good(1, 2)})); e != api.OK {
			t.Errorf("%s: a good frame: %d", m.what, e)
		}
	}
}

func TestNumbersThatTheVaultRefuses(t *testing.T) { // P15.1: of a frame that has the form
	for _, m := range both(10) {
		b, _, _ := m.packs(t, 1, 8, digest{7}, ticks(2)...)
		for _, n := range []int{-1, -2, math.MinInt} {
			m.rejects(t, api.ErrArg, n, 8, digest{7}, b)
			m.rejects(t, api.ErrArg, 1, n, digest{7}, b)
		}
		for _, n := range []int{1 << 32, 1<<32 + 1, math.MaxInt} {
			m.rejects(t, api.ErrSpent, n, 8, digest{7}, b)
			m.rejects(t, api.ErrSpent, 1, n, digest{7}, b)
		}
		m.rejects(t, api.ErrSpent, 1, 10, digest{7}, b)
		m.rejects(t, api.ErrSeal, 1, 9, digest{7}, b)
	}
	a, c := realOne(vault.Key{1}, 10), realOne(vault.Key{1}, 9)
	b, _, _ := a.packs(t, 1, 8, digest{7}, ticks(2)...)
	c.rejects(t, api.ErrSpent, 1, 8, digest{7}, b)
}

func TestOfANilVault(t *testing.T) { // P15.1: a frame whose root is noughts has the form; nothing is opened
	m := nilOne()
	b := m.frameOf([]int{0, 3}, [][]byte{[]byte("a"), []byte("b")})
	m.rejects(t, api.ErrNil, 1, 0, digest{7}, b)
	m.rejects(t, api.ErrNil, -1, -1, digest{7}, b)
	m.rejects(t, api.ErrForm, 1, 0, digest{7}, turned(b, len(b)-1, []byte{1}))
	m.rejects(t, api.ErrForm, 1, 0, digest{7}, turned(b, 16, num(17)))
	made := both(10)[0]
	b, _, _ = made.packs(t, 1, 0, digest{7}, ticks(2)...)
	m.rejects(t, api.ErrForm, 1, 0, digest{7}, b)
	none := vault.Ideal(nil, vault.Key{1}, 9)
	if list, d, e := seg.Unpack(none, 1, 0, digest{7}, m.frameOf([]int{0}, [][]byte{[]byte("a")})); list != nil || d != (digest{}) || e != api.ErrNil {
		t.Errorf("of no world: %v, %x, %d", list, d, e)
	}
}

func TestAnotherWorld(t *testing.T) { // P15.1: ErrForm or ErrSeal: what one world made, another one didn't
	m, _ := idealOne(vault.Key{1}, 10)
	b, _, _ := m.packs(t, 1, 0, digest{7}, bodies(2, 30)...)
	w := ideal.New()
	if list, _, e := seg.Unpack(vault.Ideal(w, vault.Key{1}, 10), 1, 0, digest{7}, b); list != nil || e != api.ErrForm && e != api.ErrSeal {
		t.Errorf("%v, %d", list, e)
	}
}
