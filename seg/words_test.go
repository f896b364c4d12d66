package seg_test

import (
	"bytes"
	"crypto/aes"
	"crypto/cipher"
	"crypto/hkdf"
	"crypto/sha256"
	"encoding/binary"
	"encoding/hex"
	"math"
	"math/rand"
	"slices"
	"strings"
	"testing"

	"coffret/api"
	"coffret/ideal"
	"coffret/record"
	"coffret/seg"
	"coffret/vault"
)

type digest = [32]byte

// tools: what keys, seals and digests are made by.
type tools struct {
	derive func(purpose []byte) digest
	hash   func(b []byte) digest
	seal   func(key digest, nonce, text, aad []byte) []byte
	open   func(key digest, nonce, b, aad []byte) ([]byte, bool)
}

// made: a vault, what it is, and the chapter's words spelt out over tools of the same kind.
type made struct {
	what  string
	v     *vault.Vault
	limit int
	tools
}

// library: AES-GCM, as Go's library has it.
func library(key digest) cipher.AEAD {
	block, err := aes.NewCipher(key[:])
	if err != nil {
		panic(err)
	}
	c, err := cipher.NewGCM(block)
	if err != nil {
		panic(err)
	}
	return c
}

// realOne: a vault whose things Go's own library makes, too.
func realOne(master vault.Key, limit int) made {
	return made{"real", vault.Real(master, limit), max(limit, 0), tools{
		derive: func(purpose []byte) digest {
			b, err := hkdf.Expand(sha256.New, master[:], string(purpose), 32)
			if err != nil {
				panic(err)
			}
			return digest(b)
		},
		hash: func(b []byte) digest { return sha256.Sum256(b) },
		seal: func(key digest, nonce, text, aad []byte) []byte { return library(key).Seal(nil, nonce, text, aad) },
		open: func(key digest, nonce, b, aad []byte) ([]byte, bool) {
			text, err := library(key).Open(nil, nonce, b, aad)
			return text, err == nil
		},
	}}
}

// idealOne: a vault over a new world, which is asked for its things behind each call: what was made is the same then.
func idealOne(master vault.Key, limit int) (made, *ideal.World) {
	w := ideal.New()
	return made{"ideal", vault.Ideal(w, master, limit), max(limit, 0), tools{
		derive: func(purpose []byte) digest { return w.Derive(master[:], purpose) },
		hash:   func(b []byte) digest { return w.Hash(b) },
		seal: func(key digest, nonce, text, aad []byte) []byte {
			b, e := w.Seal(key[:], nonce, text, aad)
			if e != api.OK {
				panic("a seal that can't be")
			}
			return b
		},
		open: func(key digest, nonce, b, aad []byte) ([]byte, bool) {
			text, e := w.Open(key[:], nonce, b, aad)
			return text, e == api.OK
		},
	}}, w
}

// nilOne: no vault at all, whose digests are noughts.
func nilOne() made {
	none := func([]byte) digest { return digest{} }
	return made{what: "nil", tools: tools{derive: none, hash: none}}
}

// both: a real vault and an ideal one.
func both(limit int) []made {
	m, _ := idealOne(vault.Key{1, 2, 3}, limit)
	return []made{realOne(vault.Key{1, 2, 3}, limit), m}
}

// vaults: of all kinds.
func vaults(limit int) []made {
	return append(both(limit), nilOne())
}

// num as layer 1 writes numbers.
func num(list ...int) []byte {
	var b []byte
	for _, n := range list {
		b = binary.LittleEndian.AppendUint64(b, uint64(n))
	}
	return b
}

// text as layer 1 writes one.
func text(b []byte) []byte {
	n := len(b)
	return append([]byte{byte(n), byte(n >> 8), byte(n >> 16)}, b...)
}

// nonce of an epoch and a number, as layer 10 says it.
func nonce(epoch, seq int) []byte {
	return append(binary.LittleEndian.AppendUint32(nil, uint32(epoch)), num(seq)...)
}

// key of a queue.
func (m made) key(queue int) digest {
	return m.derive(append([]byte("\x05\x00\x00queue"), num(queue)...))
}

// start: the head ahead of an epoch's first frame.
func (m made) start(epoch int) digest {
	return m.hash(append([]byte("\x05\x00\x00epoch"), num(epoch)...))
}

// besides: what is known besides of the i-th of n records.
func besides(at digest, i, n int) []byte {
	return append(at[:], num(i, n)...)
}

// root of the leaves of what was sealed, of one at least.
func (m made) root(seals [][]byte) digest {
	if len(seals) == 1 {
		return m.hash(append([]byte{0x31}, seals[0]...))
	}
	k := 1
	for 2*k < len(seals) {
		k *= 2
	}
	left, right := m.root(seals[:k]), m.root(seals[k:])
	return m.hash(slices.Concat([]byte{0x32}, left[:], right[:]))
}

// behind: the head behind a frame.
func (m made) behind(at digest, frame []byte) digest {
	return m.hash(append(at[:], frame...))
}

// refused: why nothing is sealed or opened with a number of an epoch.
func (m made) refused(epoch, seq int) api.Errno {
	switch {
	case m.v == nil:
		return api.ErrNil
	case epoch < 0 || seq < 0:
		return api.ErrArg
	case epoch >= 4294967296 || seq >= m.limit:
		return api.ErrSpent
	}
	return api.OK
}

// frameOf queues and seals, whatever they are; with the root that is theirs.
func (m made) frameOf(queues []int, seals [][]byte) []byte {
	var parts []byte
	for i, s := range seals {
		parts = append(parts, append(num(queues[i]), text(s)...)...)
	}
	root := m.root(seals)
	return slices.Concat(num(16+len(parts)+32, len(seals)), parts, root[:])
}

// sealed: the seals of texts under the keys of queues, and with what is known besides, as those of a frame.
func (m made) sealed(epoch, seq int, at digest, queues []int, texts [][]byte) [][]byte {
	var seals [][]byte
	for i, b := range texts {
		seals = append(seals, m.seal(m.key(queues[i]), nonce(epoch, seq+i), b, besides(at, i, len(texts))))
	}
	return seals
}

// pack: what Pack answers, by the chapter's words.
func (m made) pack(epoch, seq int, at digest, list []api.Record) ([]byte, digest, api.Errno) {
	if len(list) == 0 {
		return nil, at, api.ErrArg
	}
	size := 48
	var queues []int
	var texts [][]byte
	for i, r := range list {
		b, e := record.Put(r)
		if e != api.OK {
			return nil, digest{}, api.ErrArg
		}
		if size += 63 + len(r.Body); size > 16384 {
			return nil, digest{}, api.ErrLong
		}
		if e := m.refused(epoch, seq+i); e != api.OK {
			return nil, digest{}, e
		}
		queues, texts = append(queues, r.Queue), append(texts, b)
	}
	b := m.frameOf(queues, m.sealed(epoch, seq, at, queues, texts))
	return b, m.behind(at, b), api.OK
}

// length: what Length answers.
func length(b []byte) int {
	if len(b) < 8 {
		return 0
	}
	n := int(binary.LittleEndian.Uint64(b))
	if n < 48 || n > 16384 || len(b) < n {
		return 0
	}
	return n
}

// number taken from the beginning of bytes; false: there are too few.
func number(b []byte) (int, []byte, bool) {
	if len(b) < 8 {
		return 0, nil, false
	}
	return int(binary.LittleEndian.Uint64(b)), b[8:], true
}

// parts of a frame: its queues and its seals; false: it hasn't the form.
func (m made) parts(b []byte) ([]int, [][]byte, bool) {
	if len(b) == 0 || length(b) != len(b) {
		return nil, nil, false
	}
	n, rest, ok := number(b[8:])
	if !ok || n < 1 || n > 260 {
		return nil, nil, false
	}
	var queues []int
	var seals [][]byte
	for range n {
		var queue int
		if queue, rest, ok = number(rest); !ok || queue < 0 || queue > 16 || len(rest) < 3 {
			return nil, nil, false
		}
		size := int(rest[0]) + int(rest[1])<<8 + int(rest[2])<<16
		if rest = rest[3:]; len(rest) < size {
			return nil, nil, false
		}
		queues, seals, rest = append(queues, queue), append(seals, rest[:size]), rest[size:]
	}
	root := m.root(seals)
	return queues, seals, bytes.Equal(rest, root[:])
}

// unpack: what Unpack answers, by the chapter's words.
func (m made) unpack(epoch, seq int, at digest, b []byte) ([]api.Record, digest, api.Errno) {
	queues, seals, ok := m.parts(b)
	if !ok {
		return nil, digest{}, api.ErrForm
	}
	var list []api.Record
	for i, s := range seals {
		if e := m.refused(epoch, seq+i); e != api.OK {
			return nil, digest{}, e
		}
		opened, ok := m.open(m.key(queues[i]), nonce(epoch, seq+i), s, besides(at, i, len(seals)))
		if !ok {
			return nil, digest{}, api.ErrSeal
		}
		r, e := record.Get(opened)
		if e != api.OK || r.Queue != queues[i] {
			return nil, digest{}, api.ErrForm
		}
		list = append(list, r)
	}
	return list, m.behind(at, b), api.OK
}

// packs as the words say; what it answers.
func (m made) packs(t testing.TB, epoch, seq int, at digest, list ...api.Record) ([]byte, digest, api.Errno) {
	t.Helper()
	b, d, e := seg.Pack(m.v, epoch, seq, at, list...)
	frame, head, err := m.pack(epoch, seq, at, list)
	if !bytes.Equal(b, frame) || d != head || e != err {
		t.Fatalf("%s: Pack of %d records at %d, %d: %x, %x, %d, not %x, %x, %d", m.what, len(list), epoch, seq, b, d, e, frame, head, err)
	}
	return b, d, e
}

// unpacks as the words say; what it answers.
func (m made) unpacks(t testing.TB, epoch, seq int, at digest, b []byte) ([]api.Record, digest, api.Errno) {
	t.Helper()
	list, d, e := seg.Unpack(m.v, epoch, seq, at, b)
	records, head, err := m.unpack(epoch, seq, at, b)
	if !slices.Equal(list, records) || d != head || e != err {
		t.Fatalf("%s: Unpack of %d bytes at %d, %d: %v, %x, %d, not %v, %x, %d", m.what, len(b), epoch, seq, list, d, e, records, head, err)
	}
	return list, d, e
}

// withBody: a message of a queue.
func withBody(queue, id int, body string) api.Record {
	return api.Record{Kind: api.RecPut, Queue: queue, Id: id, Body: body}
}

// anyRecord that can be, made up.
func anyRecord(rnd *rand.Rand) api.Record {
	queue, id := 1+rnd.Intn(16), 1+rnd.Intn(1<<40)
	body := make([]byte, rnd.Intn(rnd.Intn(513)+1))
	rnd.Read(body)
	switch kind := 1 + rnd.Intn(13); kind {
	case api.RecMake:
		return api.Record{Kind: kind, Queue: queue, Id: 1 + rnd.Intn(16), Num: 1 + rnd.Intn(64), Wait: 1 + rnd.Intn(1<<20)}
	case api.RecDrop:
		return api.Record{Kind: kind, Queue: queue}
	case api.RecPut:
		return withBody(queue, id, string(body))
	case api.RecLease:
		return api.Record{Kind: kind, Queue: queue, Id: id, Num: 1 + rnd.Intn(1<<50)}
	case api.RecTick:
		return api.Record{Kind: kind, Num: rnd.Intn(1 << 50)}
	case api.RecRevoke, api.RecMint:
		return api.Record{Kind: kind, Id: id}
	case api.RecState:
		return api.Record{Kind: kind, Queue: queue, Id: id, Num: rnd.Intn(1 << 50), Wait: rnd.Intn(17), Body: string(body)}
	case api.RecDead:
		return api.Record{Kind: kind, Queue: queue, Id: id, Wait: rnd.Intn(17), Body: string(body)}
	default:
		return api.Record{Kind: kind, Queue: queue, Id: id}
	}
}

// anyList of so many records that can be.
func anyList(rnd *rand.Rand, n int) []api.Record {
	list := make([]api.Record, n)
	for i := range list {
		list[i] = anyRecord(rnd)
	}
	return list
}

// anyHead made up.
func anyHead(rnd *rand.Rand) digest {
	var d digest
	rnd.Read(d[:])
	return d
}

// ticks: so many records without Body.
func ticks(n int) []api.Record {
	list := make([]api.Record, n)
	for i := range list {
		list[i] = api.Record{Kind: api.RecTick, Num: i}
	}
	return list
}

// bodies: so many records with a Body of so many bytes each.
func bodies(n, size int) []api.Record {
	list := make([]api.Record, n)
	for i := range list {
		list[i] = withBody(1+i%16, i+1, strings.Repeat("x", size))
	}
	return list
}

// unhex: bytes of hexadecimal digits, with blanks between.
func unhex(s string) []byte {
	b, err := hex.DecodeString(strings.Join(strings.Fields(s), ""))
	if err != nil {
		panic(err)
	}
	return b
}

func TestOneRecordTakesOneSector(t *testing.T) { // P15.1: the chapter's example
	r := api.Record{Kind: api.RecTick, Num: 9}
	if seg.Size(r) != 111 || seg.Sectors(r) != 1 {
		t.Errorf("%d bytes, %d sectors", seg.Size(r), seg.Sectors(r))
	}
	for _, m := range both(9) {
		b, _, e := seg.Pack(m.v, 1, 0, digest{}, r)
		if e != api.OK || len(b) != 111 {
			t.Errorf("%s: %d bytes, %d", m.what, len(b), e)
		}
	}
}

func TestSizeAndSectors(t *testing.T) { // P15.1: 48, and 63 and its Body's for each; records that can't be, too
	for _, x := range []struct {
		list          []api.Record
		size, sectors int
	}{
		{nil, 48, 1},
		{ticks(1), 111, 1},
		{ticks(2), 174, 1},
		{ticks(3), 237, 1},
		{ticks(4), 300, 2},
		{ticks(259), 16365, 64},
		{ticks(260), 16428, 65},
		{ticks(1000), 63048, 247},
		{bodies(1, 1), 112, 1},
		{bodies(1, 144), 255, 1},
		{bodies(1, 145), 256, 1},
		{bodies(1, 146), 257, 2},
		{bodies(1, 401), 512, 2},
		{bodies(1, 402), 513, 3},
		{bodies(1, 512), 623, 3},
		{bodies(28, 512), 16148, 64},
		{bodies(29, 512), 16723, 66},
		{[]api.Record{{}}, 111, 1},
		{[]api.Record{{Kind: -1, Queue: 99, Id: -7, Num: -1, Wait: math.MinInt, Body: "abc"}}, 114, 1},
		{bodies(1, 1000000), 1000111, 3907},
		{bodies(3, 100000), 300237, 1173},
		{append(bodies(2, 5), ticks(3)...), 373, 2},
	} {
		if n, s := seg.Size(x.list...), seg.Sectors(x.list...); n != x.size || s != x.sectors {
			t.Errorf("of %d records: %d bytes and %d sectors, not %d and %d", len(x.list), n, s, x.size, x.sectors)
		}
	}
}

func TestSizeIsTheFrames(t *testing.T) { // P15.1: of records that can be, as long as there is room
	rnd := rand.New(rand.NewSource(1))
	for _, m := range both(1000) {
		for n := 1; n < 40; n++ {
			list := anyList(rnd, n)
			b, _, e := seg.Pack(m.v, n, 0, digest{}, list...)
			if e != api.OK || len(b) != seg.Size(list...) || seg.Length(b) != len(b) {
				t.Errorf("%s: %d records: %d bytes, %d", m.what, n, len(b), e)
			}
		}
	}
}

// split by the chapter's words.
func split(list []api.Record) [][]api.Record {
	var lists [][]api.Record
	var last []api.Record
	size := 48
	for _, r := range list {
		size += 63 + len(r.Body)
		if size > 16384 && len(last) > 0 {
			lists, last, size = append(lists, last), nil, 48+63+len(r.Body)
		}
		last = append(last, r)
	}
	if len(last) > 0 {
		lists = append(lists, last)
	}
	return lists
}

func TestSplit(t *testing.T) { // P15.1: as many as a frame has room for, one at least
	rnd := rand.New(rand.NewSource(2))
	full := append(ticks(258), withBody(1, 1, strings.Repeat("y", 19))) // 16384 bytes, to the last one
	more := append(ticks(258), withBody(1, 1, strings.Repeat("y", 20)))
	huge := bodies(3, 20000)
	for _, x := range []struct {
		list []api.Record
		want []int
	}{
		{nil, nil},
		{[]api.Record{}, nil},
		{ticks(1), []int{1}},
		{ticks(2), []int{2}},
		{ticks(259), []int{259}},
		{ticks(260), []int{259, 1}},
		{ticks(518), []int{259, 259}},
		{ticks(519), []int{259, 259, 1}},
		{full, []int{259}},
		{more, []int{258, 1}},
		{append(slices.Clone(full), full...), []int{259, 259}},
		{append(slices.Clone(more), full...), []int{258, 258, 2}},
		{bodies(28, 512), []int{28}},
		{bodies(29, 512), []int{28, 1}},
		{bodies(57, 512), []int{28, 28, 1}},
		{huge, []int{1, 1, 1}},
		{slices.Concat(ticks(3), huge[:1], ticks(3)), []int{3, 1, 3}},
		{slices.Concat(huge[:1], huge[:1], ticks(1)), []int{1, 1, 1}},
		{bodies(1, 16273), []int{1}},
		{append(bodies(1, 16273), ticks(1)...), []int{1, 1}},
		{append(bodies(1, 16273-63), ticks(1)...), []int{2}},
		{append(bodies(1, 16273-62), ticks(1)...), []int{1, 1}},
		{append(bodies(1, 16274), ticks(1)...), []int{1, 1}},
		{make([]api.Record, 300), []int{259, 41}},
		{anyList(rnd, 5), []int{5}},
	} {
		lists := seg.Split(x.list...)
		var got []int
		for _, l := range lists {
			got = append(got, len(l))
		}
		if !slices.Equal(got, x.want) {
			t.Errorf("of %d records: %d, not %d", len(x.list), got, x.want)
		}
		if !slices.Equal(slices.Concat(lists...), x.list) {
			t.Errorf("of %d records: they aren't one behind the other", len(x.list))
		}
	}
}

func TestSplitAsTheWordsSay(t *testing.T) { // P15.1: of records that are made up; each list has a frame, and none of the next one's records room in it
	rnd := rand.New(rand.NewSource(3))
	for range 200 {
		list := anyList(rnd, rnd.Intn(400))
		lists, want := seg.Split(list...), split(list)
		if !slices.EqualFunc(lists, want, slices.Equal) {
			t.Fatalf("of %d records: %d lists, not %d", len(list), len(lists), len(want))
		}
		for i, l := range lists {
			if seg.Size(l...) > 16384 || i+1 < len(lists) && seg.Size(append(l, lists[i+1][0])...) <= 16384 {
				t.Fatalf("list %d of %d records has %d", i, len(list), len(l))
			}
		}
	}
}

func TestStart(t *testing.T) { // P15.1: the digest of 05 00 00 "epoch", and the number
	epochs := []int{0, 1, 2, 3, 255, 256, 65536, 1<<32 - 1, 1 << 32, 1 << 62, math.MaxInt, -1, -256, math.MinInt}
	for _, m := range vaults(3) {
		seen := map[digest]int{}
		for _, n := range epochs {
			d := seg.Start(m.v, n)
			if want := m.start(n); d != want {
				t.Errorf("%s: of %d: %x, not %x", m.what, n, d, want)
			}
			seen[d]++
		}
		if m.v != nil && len(seen) != len(epochs) {
			t.Errorf("%s: %d heads of %d epochs", m.what, len(seen), len(epochs))
		}
	}
	if d := seg.Start(vault.Real(vault.Key{}, 0), 3); !bytes.Equal(d[:], unhex("3a384e89206b15d323d25d4a0ab0fdff81f8f7e6e27369457de57e13c068fffa")) {
		t.Errorf("of 3: %x", d)
	}
	if seg.Start(vault.Real(vault.Key{1}, 1), 5) != seg.Start(vault.Real(vault.Key{2}, 2), 5) {
		t.Error("a head hangs on the master key")
	}
	if seg.Start(nil, 5) != (digest{}) {
		t.Error("of a nil vault")
	}
}

func TestKey(t *testing.T) { // P15.1: the one for the purpose queue and its number
	for _, m := range vaults(3) {
		for _, n := range []int{0, 1, 2, 15, 16, 17, 255, 256, 1 << 40, math.MaxInt, -1, math.MinInt} {
			k := seg.Key(m.v, n)
			if want := m.key(n); k != vault.Key(want) || k != m.v.Key("queue", n) {
				t.Errorf("%s: of %d: %x, not %x", m.what, n, k, want)
			}
		}
	}
	if k := seg.Key(vault.Real(vault.Key{}, 0), 7); !bytes.Equal(k[:], unhex("fb4dfe2026af4002ca1b212dac87c61cc917366017c1d11be59d33b3895514d0")) {
		t.Errorf("of 7: %x", k)
	}
}

func TestLength(t *testing.T) { // P15.1: from 48 to 16384, and no more than there are bytes
	room := make([]byte, 20000)
	for _, n := range []int{0, 1, 7, 8, 16, 47, 48, 49, 111, 255, 256, 257, 16383, 16384, 16385, 17000, 65536 + 48, 1 << 32, 1<<32 + 48, 1<<56 + 48, math.MaxInt, -1, -48, math.MinInt, math.MinInt + 48} {
		copy(room, num(n))
		for _, has := range []int{0, 1, 7, 8, 9, 47, 48, 49, 110, 111, 112, 256, n - 1, n, n + 1, 16383, 16384, 16385, 20000} {
			if has < 0 || has > len(room) {
				continue
			}
			want := 0
			if n >= 48 && n <= 16384 && has >= n {
				want = n
			}
			if got := seg.Length(room[:has]); got != want {
				t.Errorf("of %d bytes that tell %d: %d, not %d", has, n, got, want)
			}
		}
	}
	if seg.Length(nil) != 0 {
		t.Error("of nothing")
	}
}

func TestAFrameSpeltOut(t *testing.T) { // P15.1: two records, in numbers; the head ahead is 20 times 07, and noughts
	v := vault.Real(vault.Key{1, 2, 3}, 100)
	at := digest{7, 7, 7, 7, 7, 7, 7, 7, 7, 7, 7, 7, 7, 7, 7, 7, 7, 7, 7, 7}
	list := []api.Record{withBody(2, 1, "secret"), {Kind: api.RecTick, Num: 9}}
	b, d, e := seg.Pack(v, 3, 5, at, list...)
	want := unhex(`
		b4000000000000000200000000000000
		0200000000000000
		3a0000
		d3fca8c92f13bd3bc5840e45876c9d4c8aa2e9e2dd28341310112239655cd4afdb5c5f5ef9a258daa0dd0d353bc01eeec9ca07e53240eb7b72eb
		0000000000000000
		340000
		b6e3050e88a60f30b111f163c237e2aef803bdb278f6209fc367bb4be4022538ac85d14304c06007a4a920cd205f0a6cd4512d90
		0fff556ab8d44ffbe2ea45e89d01985823f56c3596e0a82820f74fd4624fd259`)
	head := unhex("f2a37b8b1663f48ba5ad268012a47875c1ad6e2d6a8f3a4032c648e73fda04ea")
	if e != api.OK || !bytes.Equal(b, want) || !bytes.Equal(d[:], head) {
		t.Errorf("Pack: %d, %x, %x", e, b, d)
	}
	got, to, e := seg.Unpack(v, 3, 5, at, want)
	if e != api.OK || !slices.Equal(got, list) || to != d {
		t.Errorf("Unpack: %d, %v, %x", e, got, to)
	}
}

func TestAFrameInAnIdealWorld(t *testing.T) { // P15.1: what stands where, with each thing's letter
	m, _ := idealOne(vault.Key{1}, 100)
	b, d, e := seg.Pack(m.v, 3, 5, digest{1}, withBody(2, 1, "secret"), api.Record{Kind: api.RecTick, Num: 9})
	if e != api.OK || len(b) != 180 {
		t.Fatalf("%d, %d bytes", e, len(b))
	}
	for _, x := range []struct {
		at   int
		want []byte
	}{
		{0, num(180, 2)},
		{16, num(2)},
		{24, []byte{58, 0, 0}},
		{27 + 8, append([]byte{'S'}, bytes.Repeat([]byte{0xee}, 49)...)},
		{85, num(0)},
		{93, []byte{52, 0, 0}},
		{96 + 8, append([]byte{'S'}, bytes.Repeat([]byte{0xee}, 43)...)},
		{148 + 8, append([]byte{'H'}, bytes.Repeat([]byte{0xee}, 23)...)},
	} {
		if !bytes.Equal(b[x.at:x.at+len(x.want)], x.want) {
			t.Errorf("at %d: %x, not %x", x.at, b[x.at:x.at+len(x.want)], x.want)
		}
	}
	if d[8] != 'H' {
		t.Errorf("the head is %x", d)
	}
}

func TestFramesAsTheWordsSay(t *testing.T) { // P15.1: of records, epochs, numbers and heads that are made up, one behind the other
	rnd := rand.New(rand.NewSource(4))
	for _, m := range both(1 << 40) {
		at := seg.Start(m.v, 1)
		for range 150 {
			epoch, seq := rnd.Intn(1<<rnd.Intn(33)), rnd.Intn(1<<rnd.Intn(40))
			list := anyList(rnd, 1+rnd.Intn(1+rnd.Intn(60)))
			b, d, e := m.packs(t, epoch, seq, at, list...)
			if e == api.ErrLong {
				continue
			}
			got, to, err := m.unpacks(t, epoch, seq, at, b)
			if e != api.OK || err != api.OK || to != d || !slices.Equal(got, list) {
				t.Fatalf("%s: %d, %d of %d records", m.what, e, err, len(list))
			}
			at = d
		}
	}
}

func TestEachNumberOfRecords(t *testing.T) { // P15.1: up to the 259 that a frame has room for
	for _, m := range both(300) {
		for n := 1; n <= 261; n++ {
			if m.what == "real" && n > 70 && n < 250 {
				continue
			}
			b, _, e := m.packs(t, n, 0, digest{9}, ticks(n)...)
			if want := n <= 259; (e == api.OK) != want {
				t.Fatalf("%s: %d records: %d", m.what, n, e)
			}
			if e == api.OK {
				m.unpacks(t, n, 0, digest{9}, b)
			}
		}
	}
}

func TestEachBodyAndQueue(t *testing.T) { // P15.1: of each length, and of each queue
	for _, m := range both(1) {
		for n := range 513 {
			b, _, e := m.packs(t, n, 0, digest{9}, withBody(1+n%16, 1, strings.Repeat("z", n)))
			list, _, err := m.unpacks(t, n, 0, digest{9}, b)
			if e != api.OK || err != api.OK || len(b) != 111+n || len(list[0].Body) != n {
				t.Fatalf("%s: %d bytes: %d, %d", m.what, n, e, err)
			}
		}
	}
}

func TestJustWhatTheWordsSayIsMade(t *testing.T) { // P15.1: of three records a world has three keys and seals, three leaves, two digests of two, and the head
	m, w := idealOne(vault.Key{1}, 9)
	list := []api.Record{withBody(1, 1, "a"), withBody(2, 1, "b"), {Kind: api.RecTick}}
	b, _, _ := m.packs(t, 1, 0, digest{}, list...)
	if w.Size() != 3+3+3+2+1 {
		t.Errorf("%d things were made", w.Size())
	}
	m.unpacks(t, 1, 0, digest{}, b)
	if w.Size() != 12 {
		t.Errorf("%d things were made when the frame was unpacked", w.Size())
	}
}
