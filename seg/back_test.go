package seg_test

import (
	"bytes"
	"math/rand"
	"slices"
	"strings"
	"testing"

	"coffret/api"
	"coffret/ideal"
	"coffret/seg"
	"coffret/vault"
)

// isRefused: a frame that must not be unpacked; by which error.
func (m made) isRefused(t *testing.T, what string, epoch, seq int, at digest, b []byte) api.Errno {
	t.Helper()
	list, d, e := seg.Unpack(m.v, epoch, seq, at, b)
	if e == api.OK || list != nil || d != (digest{}) {
		t.Errorf("%s: %s: %d, %v, %x", m.what, what, e, list, d)
	}
	return e
}

func TestThereAndBack(t *testing.T) { // P15.2: with the same epoch, number and head, to the same head
	rnd := rand.New(rand.NewSource(1))
	for _, m := range both(1000) {
		for range 200 {
			list := anyList(rnd, 1+rnd.Intn(40))
			epoch, seq, at := rnd.Intn(1<<32), rnd.Intn(900), anyHead(rnd)
			b, d, e := seg.Pack(m.v, epoch, seq, at, list...)
			if e != api.OK {
				t.Fatalf("%s: Pack: %d", m.what, e)
			}
			got, to, e := seg.Unpack(m.v, epoch, seq, at, b)
			if e != api.OK || to != d || !slices.Equal(got, list) {
				t.Fatalf("%s: Unpack: %d, %v, not %v", m.what, e, got, list)
			}
		}
	}
}

func TestASplitListThereAndBack(t *testing.T) { // P15.2: of any number of records, frame by frame, each behind the one ahead
	rnd := rand.New(rand.NewSource(2))
	for _, m := range both(2000) {
		list := anyList(rnd, 1000)
		var frames [][]byte
		at, seq := seg.Start(m.v, 4), 0
		for _, l := range seg.Split(list...) {
			b, d, e := seg.Pack(m.v, 4, seq, at, l...)
			if e != api.OK {
				t.Fatalf("%s: Pack: %d", m.what, e)
			}
			frames, at, seq = append(frames, b), d, seq+len(l)
		}
		var got []api.Record
		to := seg.Start(m.v, 4)
		for _, b := range frames {
			l, d, e := seg.Unpack(m.v, 4, len(got), to, b)
			if e != api.OK {
				t.Fatalf("%s: Unpack: %d", m.what, e)
			}
			got, to = append(got, l...), d
		}
		if to != at || !slices.Equal(got, list) || len(frames) < 3 {
			t.Errorf("%s: %d frames, %d records", m.what, len(frames), len(got))
		}
		m.isRefused(t, "the second frame ahead of the first one", 4, 0, seg.Start(m.v, 4), frames[1])
		m.isRefused(t, "the first frame a second time", 4, 0, at, frames[0])
	}
}

func TestAnotherPlace(t *testing.T) { // P15.2: with another epoch, number or head it isn't unpacked
	rnd := rand.New(rand.NewSource(3))
	for _, m := range both(1 << 40) {
		for range 20 {
			list := anyList(rnd, 1+rnd.Intn(5))
			epoch, seq, at := rnd.Intn(1<<32), rnd.Intn(1<<39), anyHead(rnd)
			b, _, _ := seg.Pack(m.v, epoch, seq, at, list...)
			for bit := range 32 {
				if e := m.isRefused(t, "another epoch", epoch^1<<bit, seq, at, b); e != api.ErrSeal {
					t.Errorf("%s: another epoch: %d", m.what, e)
				}
			}
			for bit := range 39 {
				if e := m.isRefused(t, "another number", epoch, seq^1<<bit, at, b); e != api.ErrSeal {
					t.Errorf("%s: another number: %d", m.what, e)
				}
			}
			for bit := range 256 {
				other := at
				other[bit/8] ^= 1 << (bit % 8)
				if e := m.isRefused(t, "another head", epoch, seq, other, b); e != api.ErrSeal {
					t.Errorf("%s: another head: %d", m.what, e)
				}
			}
			m.isRefused(t, "the epoch and the number changed", seq%(1<<32), epoch, at, b)
		}
	}
}

func TestAnotherKey(t *testing.T) { // P15.2: another master key is as another place
	w := ideal.New()
	list := bodies(2, 30)
	for _, x := range []struct {
		what       string
		one, other *vault.Vault
	}{
		{"real", vault.Real(vault.Key{1}, 9), vault.Real(vault.Key{2}, 9)},
		{"ideal", vault.Ideal(w, vault.Key{1}, 9), vault.Ideal(w, vault.Key{2}, 9)},
	} {
		b, d, _ := seg.Pack(x.one, 1, 0, digest{7}, list...)
		if got, _, e := seg.Unpack(x.other, 1, 0, digest{7}, b); e != api.ErrSeal || got != nil {
			t.Errorf("%s: another key: %d, %v", x.what, e, got)
		}
		c, to, _ := seg.Pack(x.other, 1, 0, digest{7}, list...)
		if bytes.Equal(b, c) || d == to {
			t.Errorf("%s: two keys, and one frame", x.what)
		}
	}
	again := vault.Ideal(w, vault.Key{1}, 9)
	b, d, _ := seg.Pack(vault.Ideal(w, vault.Key{1}, 9), 1, 0, digest{7}, list...)
	if got, to, e := seg.Unpack(again, 1, 0, digest{7}, b); e != api.OK || to != d || !slices.Equal(got, list) {
		t.Errorf("another vault of the same key and world: %d", e)
	}
	b, d, _ = seg.Pack(vault.Real(vault.Key{1}, 9), 1, 0, digest{7}, list...)
	if got, to, e := seg.Unpack(vault.Real(vault.Key{1}, 3), 1, 0, digest{7}, b); e != api.OK || to != d || !slices.Equal(got, list) {
		t.Errorf("another vault of the same key: %d", e)
	}
}

func TestEachBitOfAFrame(t *testing.T) { // P15.2: with a bit turned it isn't unpacked
	list := []api.Record{withBody(2, 1, "some words"), {Kind: api.RecTick, Num: 9}, {Kind: api.RecAck, Queue: 16, Id: 1 << 40}}
	for _, m := range both(9) {
		b, d, _ := seg.Pack(m.v, 3, 2, digest{7}, list...)
		for bit := range 8 * len(b) {
			b[bit/8] ^= 1 << (bit % 8)
			m.isRefused(t, "a bit", 3, 2, digest{7}, b)
			b[bit/8] ^= 1 << (bit % 8)
		}
		if got, to, e := seg.Unpack(m.v, 3, 2, digest{7}, b); e != api.OK || to != d || !slices.Equal(got, list) {
			t.Errorf("%s: as it was: %d", m.what, e)
		}
	}
}

func TestEachByteOfALongFrame(t *testing.T) { // P15.2: with a byte turned it isn't unpacked
	rnd := rand.New(rand.NewSource(4))
	for _, m := range both(99) {
		b, _, e := seg.Pack(m.v, 3, 2, digest{7}, anyList(rnd, 20)...)
		if e != api.OK {
			t.Fatalf("%s: %d", m.what, e)
		}
		for i := range b {
			mask := byte(1 + rnd.Intn(255))
			b[i] ^= mask
			m.isRefused(t, "a byte", 3, 2, digest{7}, b)
			b[i] ^= mask
		}
	}
}

func TestATurnedSealWithItsRoot(t *testing.T) { // P15.2: though a root fits anybody's seals, these are told by their tags
	list := bodies(3, 20)
	for _, m := range both(9) {
		queues, texts := []int{1, 2, 3}, bytesOf(list...)
		seals := m.sealed(3, 0, digest{7}, queues, texts)
		if got, _, e := m.unpacks(t, 3, 0, digest{7}, m.frameOf(queues, seals)); e != api.OK || !slices.Equal(got, list) {
			t.Fatalf("%s: as it was: %d", m.what, e)
		}
		for i := range seals {
			for k := range seals[i] {
				seals[i][k] ^= 0x10
				m.rejects(t, api.ErrSeal, 3, 0, digest{7}, m.frameOf(queues, seals))
				seals[i][k] ^= 0x10
			}
		}
	}
}

func TestSealsPutTogetherOtherwise(t *testing.T) { // P15.2: each is of its place, and of just so many, behind its head
	list := []api.Record{withBody(5, 1, "abc"), withBody(5, 2, "abc"), withBody(5, 3, "abc")}
	fives := []int{5, 5, 5, 5}
	for _, m := range both(99) {
		at := digest{7}
		seals := m.sealed(3, 0, at, fives, bytesOf(list...))
		a, b, c := seals[0], seals[1], seals[2]
		for _, x := range [][][]byte{{b, a, c}, {a, c, b}, {c, b, a}, {a, a, a}, {a, b}, {a}, {a, b, c, c}, {b, c}, {a, b, b}} {
			m.rejects(t, api.ErrSeal, 3, 0, at, m.frameOf(fives, x))
		}
		m.rejects(t, api.ErrSeal, 3, 1, at, m.frameOf(fives, [][]byte{b, c}))
		d := m.sealed(3, 3, at, fives, bytesOf(list...))
		m.rejects(t, api.ErrSeal, 3, 0, at, m.frameOf(fives, [][]byte{a, b, d[2]}))
		e := m.sealed(3, 0, digest{8}, fives, bytesOf(list...))
		m.rejects(t, api.ErrSeal, 3, 0, at, m.frameOf(fives, [][]byte{a, b, e[2]}))
		f := m.sealed(4, 0, at, fives, bytesOf(list...))
		m.rejects(t, api.ErrSeal, 3, 0, at, m.frameOf(fives, [][]byte{a, f[1], c}))
		if _, _, err := m.unpacks(t, 3, 0, at, m.frameOf(fives, [][]byte{a, b, c})); err != api.OK {
			t.Errorf("%s: in order: %d", m.what, err)
		}
	}
}

func TestAHeadHangsOnAll(t *testing.T) { // P15.2: on each frame so far
	rnd := rand.New(rand.NewSource(5))
	for _, m := range both(99) {
		first, second := anyList(rnd, 3), anyList(rnd, 2)
		_, d, _ := seg.Pack(m.v, 1, 0, seg.Start(m.v, 1), first...)
		_, to, _ := seg.Pack(m.v, 1, 3, d, second...)
		seen := map[digest]bool{seg.Start(m.v, 1): true, d: true, to: true}
		_, other, _ := seg.Pack(m.v, 1, 0, seg.Start(m.v, 2), first...)
		_, beside, _ := seg.Pack(m.v, 1, 1, seg.Start(m.v, 1), first...)
		_, fewer, _ := seg.Pack(m.v, 1, 0, seg.Start(m.v, 1), first[:2]...)
		_, then, _ := seg.Pack(m.v, 1, 3, other, second...)
		for _, x := range []digest{other, beside, fewer, then} {
			seen[x] = true
		}
		if len(seen) != 7 {
			t.Errorf("%s: %d heads", m.what, len(seen))
		}
	}
}

// alike: records as these, with other Bodies of the same lengths.
func alike(rnd *rand.Rand, list []api.Record) []api.Record {
	other := slices.Clone(list)
	for i, r := range other {
		b := make([]byte, len(r.Body))
		rnd.Read(b)
		other[i].Body = string(b)
	}
	return other
}

func TestAFrameTellsHowLongBodiesAre(t *testing.T) { // P15.3: and nothing else of them, in an ideal vault; nor do the heads and frames behind it
	rnd := rand.New(rand.NewSource(6))
	for range 60 {
		one, _ := idealOne(vault.Key{1}, 1000)
		other, _ := idealOne(vault.Key{1}, 1000)
		at, seq := seg.Start(one.v, 2), 0
		if seg.Start(other.v, 2) != at {
			t.Fatal("two heads of an epoch")
		}
		for range 5 {
			list := anyList(rnd, 1+rnd.Intn(30))
			b, d, e := seg.Pack(one.v, 2, seq, at, list...)
			c, to, err := seg.Pack(other.v, 2, seq, at, alike(rnd, list)...)
			if e != api.OK || err != api.OK || !bytes.Equal(b, c) || d != to {
				t.Fatalf("%d, %d: two frames, or heads, of records that are alike", e, err)
			}
			at, seq = d, seq+len(list)
		}
	}
}

func TestAFrameTellsEachLength(t *testing.T) { // P15.3: a Body of another length is a frame of another one
	for n := range 512 {
		one, _ := idealOne(vault.Key{1}, 9)
		other, _ := idealOne(vault.Key{1}, 9)
		b, _, _ := seg.Pack(one.v, 2, 0, digest{}, withBody(1, 1, strings.Repeat("x", n)))
		c, _, _ := seg.Pack(other.v, 2, 0, digest{}, withBody(1, 1, strings.Repeat("x", n+1)))
		if len(c) != len(b)+1 {
			t.Errorf("%d and %d bytes", len(b), len(c))
		}
	}
}

func TestEqualAndOtherBodiesAreNotTold(t *testing.T) { // P15.3: not even whether Bodies of one list are the same
	same := []api.Record{withBody(1, 1, "yes"), withBody(1, 2, "yes"), withBody(1, 3, "yes")}
	others := []api.Record{withBody(1, 1, "yes"), withBody(1, 2, "no!"), withBody(1, 3, "huh")}
	one, _ := idealOne(vault.Key{1}, 9)
	other, _ := idealOne(vault.Key{1}, 9)
	b, d, _ := seg.Pack(one.v, 2, 0, digest{}, same...)
	c, to, _ := seg.Pack(other.v, 2, 0, digest{}, others...)
	if !bytes.Equal(b, c) || d != to {
		t.Error("two frames")
	}
}

func TestARealFrameHasNoBodyInIt(t *testing.T) { // P15.3: really, too, it is as long, and has no piece of a Body
	words := "a secret that nobody reads"
	for _, m := range both(9) {
		b, _, _ := seg.Pack(m.v, 2, 0, digest{}, withBody(1, 1, words), withBody(1, 2, words))
		c, _, _ := seg.Pack(m.v, 2, 2, digest{}, withBody(1, 1, strings.Repeat("x", len(words))), withBody(1, 2, words))
		if len(b) != len(c) || bytes.Contains(b, []byte(words[:4])) || bytes.Contains(c, []byte("xxxx")) {
			t.Errorf("%s: a Body stands in a frame", m.what)
		}
	}
}

// listOf bytes: records that can be, as these tell them.
func listOf(b []byte) []api.Record {
	rnd := rand.New(rand.NewSource(int64(len(b))))
	var list []api.Record
	for _, c := range b {
		switch {
		case c < 200:
			r := anyRecord(rnd)
			r.Id += int(c) % 3 // mostly as it can be
			list = append(list, r)
		case c < 250:
			list = append(list, withBody(1+int(c)%16, int(c), strings.Repeat("x", 2*int(c))))
		default:
			list = append(list, api.Record{Kind: int(c) - 245, Queue: int(c) - 250})
		}
	}
	return list
}

func FuzzAnyRecords(f *testing.F) { // P15.1, P15.2: of lists that are made up
	f.Add([]byte{1}, 0, 0)
	f.Add([]byte{1, 2, 3, 210, 249}, 3, 5)
	f.Add([]byte{}, -1, 1)
	f.Add(bytes.Repeat([]byte{230}, 40), 1, 0)
	f.Add(bytes.Repeat([]byte{7}, 280), 1, 0)
	f.Add([]byte{7, 250, 7}, 1, 19)
	f.Fuzz(func(t *testing.T, b []byte, epoch, seq int) {
		list := listOf(b)
		if lists := seg.Split(list...); !slices.EqualFunc(lists, split(list), slices.Equal) {
			t.Fatalf("Split: %d lists", len(lists))
		}
		for _, m := range both(20) {
			at := seg.Start(m.v, epoch)
			frame, d, e := m.packs(t, epoch, seq, at, list...)
			if e != api.OK {
				continue
			}
			if got, to, e := m.unpacks(t, epoch, seq, at, frame); e != api.OK || to != d || !slices.Equal(got, list) {
				t.Fatalf("%s: Unpack: %d", m.what, e)
			}
			frame[len(frame)/2] ^= 1
			m.unpacks(t, epoch, seq, at, frame)
		}
	})
}

func FuzzAnyBytes(f *testing.F) { // P15.1: what isn't a frame is told by the error that the words name; what has the form is gone through
	m := realOne(vault.Key{1, 2, 3}, 10)
	at := seg.Start(m.v, 1)
	b, _, _ := seg.Pack(m.v, 1, 3, at, withBody(2, 1, "secret"), api.Record{Kind: api.RecTick, Num: 9})
	f.Add(b, false)
	f.Add(b, true)
	f.Add(emptySeals(m, 3), true)
	f.Add(m.forged(1, 3, at, []int{0, 1}, [][]byte{bytesOf(ticks(1)...)[0], []byte("none")}), true)
	f.Add(append(num(48, 0), make([]byte, 32)...), false)
	f.Add([]byte{}, false)
	f.Fuzz(func(t *testing.T, b []byte, mend bool) {
		if mend && len(b) >= 48 {
			copy(b, num(len(b)))
		}
		if got, want := seg.Length(b), length(b); got != want {
			t.Fatalf("Length: %d, not %d", got, want)
		}
		for _, v := range append(both(10), nilOne()) {
			frame := b
			if mend {
				frame = v.withItsRoot(b)
			}
			v.unpacks(t, 1, 3, at, frame)
		}
	})
}

// withItsRoot: bytes, and, if they have the form but for the root, that of their seals.
func (m made) withItsRoot(b []byte) []byte {
	n, rest, ok := 0, b, false
	if len(b) < 64 {
		return b
	}
	if n, rest, _ = number(b[8 : len(b)-32]); n < 1 || n > 260 {
		return b
	}
	var seals [][]byte
	for range n {
		if _, rest, ok = number(rest); !ok || len(rest) < 3 {
			return b
		}
		size := int(rest[0]) + int(rest[1])<<8 + int(rest[2])<<16
		if rest = rest[3:]; len(rest) < size {
			return b
		}
		seals, rest = append(seals, rest[:size]), rest[size:]
	}
	root := m.root(seals)
	return turned(b, len(b)-32, root[:])
}
