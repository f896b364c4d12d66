package vault_test

import (
	"bytes"
	"crypto/aes"
	"crypto/cipher"
	"crypto/hkdf"
	"crypto/hmac"
	"crypto/sha256"
	"encoding/binary"
	"fmt"
	"math"
	"math/rand"
	"slices"
	"strings"
	"testing"

	"coffret/api"
	"coffret/gcm"
	"coffret/ideal"
	"coffret/kdf"
	"coffret/vault"
)

// call is one call of a vault, and what is handed in to it.
type call struct {
	kind       byte // S: Seal, O: Open, K: Key, M: Mac, H: Hash
	key        vault.Key
	epoch, seq int
	text       string // of Open what is to be opened; of Key the purpose; of Mac and Hash all pieces
	known      string // besides
	numbers    []int
	cut        int // where what is handed in as pieces is cut
}

// place, as the chapter tells it: a key, an epoch and a number.
type place struct {
	key        vault.Key
	epoch, seq int
}

// twin: the chapter's words, spelt out: really by Go's own library, ideally by a world of the twin's own.
type twin struct {
	world   *ideal.World // nil: real
	master  vault.Key
	limit   int
	last    map[place]string
	clashes int
}

// newTwin of a vault.
func newTwin(real bool, master vault.Key, limit int) *twin {
	m := &twin{master: master, limit: max(limit, 0), last: map[place]string{}}
	if !real {
		m.world = ideal.New()
	}
	return m
}

// newVault, and, if it is ideal, its world.
func newVault(real bool, master vault.Key, limit int) (*vault.Vault, *ideal.World) {
	if real {
		return vault.Real(master, limit), nil
	}
	w := ideal.New()
	return vault.Ideal(w, master, limit), w
}

// each calls with what makes real vaults, and with what makes ideal ones, each in a new world.
func each(call func(what string, make func(master vault.Key, limit int) *vault.Vault)) {
	for _, real := range []bool{true, false} {
		what := map[bool]string{true: "real", false: "ideal"}[real]
		call(what, func(master vault.Key, limit int) *vault.Vault {
			v, _ := newVault(real, master, limit)
			return v
		})
	}
}

// nonceOf an epoch and a number, as the chapter says it.
func nonceOf(epoch, seq int) []byte {
	b := binary.LittleEndian.AppendUint32(nil, uint32(epoch))
	return binary.LittleEndian.AppendUint64(b, uint64(seq))
}

// purposeOf: what a key is derived for, as the chapter says it.
func purposeOf(purpose string, numbers ...int) []byte {
	n := len(purpose)
	b := append([]byte{byte(n), byte(n >> 8), byte(n >> 16)}, purpose...)
	for _, x := range numbers {
		b = binary.LittleEndian.AppendUint64(b, uint64(x))
	}
	return b
}

// library: AES-GCM, as Go's library has it.
func library(key vault.Key) cipher.AEAD {
	block, err := aes.NewCipher(key[:])
	if err != nil {
		panic(err)
	}
	c, err := cipher.NewGCM(block)
	if err != nil {
		panic(err)
	}
	return c
}

// refused: the first errors of Seal and Open.
func (m *twin) refused(c call) api.Errno {
	if c.epoch < 0 || c.seq < 0 {
		return api.ErrArg
	}
	if c.epoch >= 4294967296 || c.seq >= m.limit {
		return api.ErrSpent
	}
	return api.OK
}

// seal: what Seal answers.
func (m *twin) seal(c call) ([]byte, api.Errno) {
	if e := m.refused(c); e != api.OK {
		return nil, e
	}
	if len(c.text) > api.MaxHash || len(c.known) > api.MaxHash {
		return nil, api.ErrLong
	}
	at := place{c.key, c.epoch, c.seq}
	if last, ok := m.last[at]; ok && last != c.text {
		m.clashes++
	}
	m.last[at] = c.text
	if m.world != nil {
		return m.world.Seal(c.key[:], nonceOf(c.epoch, c.seq), []byte(c.text), []byte(c.known))
	}
	return library(c.key).Seal(nil, nonceOf(c.epoch, c.seq), []byte(c.text), []byte(c.known)), api.OK
}

// open: what Open answers.
func (m *twin) open(c call) ([]byte, api.Errno) {
	if e := m.refused(c); e != api.OK {
		return nil, e
	}
	if m.world != nil {
		return m.world.Open(c.key[:], nonceOf(c.epoch, c.seq), []byte(c.text), []byte(c.known))
	}
	if len(c.text) > api.MaxHash+16 || len(c.known) > api.MaxHash {
		return nil, api.ErrSeal
	}
	text, err := library(c.key).Open(nil, nonceOf(c.epoch, c.seq), []byte(c.text), []byte(c.known))
	if err != nil {
		return nil, api.ErrSeal
	}
	return text, api.OK
}

// answer: what the chapter says that a call answers.
func (m *twin) answer(c call) ([]byte, api.Errno) {
	switch c.kind {
	case 'S':
		return m.seal(c)
	case 'O':
		return m.open(c)
	}
	var b [32]byte
	switch {
	case c.kind == 'K' && m.world != nil:
		b = m.world.Derive(m.master[:], purposeOf(c.text, c.numbers...))
	case c.kind == 'K':
		b = libraryKey(m.master, purposeOf(c.text, c.numbers...))
	case c.kind == 'M' && m.world != nil:
		b = m.world.Mac(c.key[:], []byte(c.text))
	case c.kind == 'M':
		x := hmac.New(sha256.New, c.key[:])
		x.Write([]byte(c.text))
		b = [32]byte(x.Sum(nil))
	case m.world != nil:
		b = m.world.Hash([]byte(c.text))
	default:
		b = sha256.Sum256([]byte(c.text))
	}
	return b[:], api.OK
}

// libraryKey: a key derived, as Go's library has it.
func libraryKey(master vault.Key, purpose []byte) vault.Key {
	b, err := hkdf.Expand(sha256.New, master[:], string(purpose), 32)
	if err != nil {
		panic(err)
	}
	return vault.Key(b)
}

// pieces: bytes cut into three, of which the first, or the last, may have none.
func pieces(s string, cut int) [][]byte {
	at := int(uint(cut) % uint(len(s)+1))
	return [][]byte{[]byte(s[:at]), nil, []byte(s[at:])}
}

// ask: what a vault answers to a call.
func ask(v *vault.Vault, c call) ([]byte, api.Errno) {
	var b [32]byte
	switch c.kind {
	case 'S':
		return v.Seal(c.key, c.epoch, c.seq, []byte(c.text), pieces(c.known, c.cut)...)
	case 'O':
		return v.Open(c.key, c.epoch, c.seq, []byte(c.text), pieces(c.known, c.cut)...)
	case 'K':
		b = v.Key(c.text, c.numbers...)
	case 'M':
		b = v.Mac(c.key, pieces(c.text, c.cut)...)
	case 'H':
		b = v.Hash(pieces(c.text, c.cut)...)
	}
	return b[:], api.OK
}

// holds calls of a vault, one behind the other, against the chapter's words.
func holds(t *testing.T, what string, real bool, master vault.Key, limit int, calls ...call) {
	t.Helper()
	v, w := newVault(real, master, limit)
	m := newTwin(real, master, limit)
	for i, c := range calls {
		want, wantE := m.answer(c)
		got, e := ask(v, c)
		if e != wantE || !bytes.Equal(got, want) || (e != api.OK && got != nil) {
			t.Fatalf("%s, real %t, limit %d: call %d, %s: %s, %d, not %s, %d", what, real, limit, i, tell(c), short(got), e, short(want), wantE)
		}
		if v.Clashes() != m.clashes || v.Limit() != m.limit {
			t.Fatalf("%s, real %t: call %d, %s: Clashes %d, not %d, Limit %d, not %d", what, real, i, tell(c), v.Clashes(), m.clashes, v.Limit(), m.limit)
		}
		if w.Size() != m.world.Size() {
			t.Fatalf("%s: call %d, %s: %d things in the world, not %d", what, i, tell(c), w.Size(), m.world.Size())
		}
	}
}

// bothHold: of a real vault, and of an ideal one.
func bothHold(t *testing.T, what string, master vault.Key, limit int, calls ...call) {
	t.Helper()
	for _, real := range []bool{true, false} {
		holds(t, what, real, master, limit, calls...)
	}
}

// tell a call.
func tell(c call) string {
	return fmt.Sprintf("%c of key %x, epoch %d, number %d, text %s, known %s, numbers %d, cut %d", c.kind, c.key, c.epoch, c.seq, short([]byte(c.text)), short([]byte(c.known)), c.numbers, c.cut)
}

// short tells bytes, or the first ones of many.
func short(b []byte) string {
	if len(b) <= 64 {
		return fmt.Sprintf("%x", b)
	}
	return fmt.Sprintf("%x.. (%d bytes)", b[:64], len(b))
}

// made: so many bytes, of a seed.
func made(seed int64, n int) []byte {
	b := make([]byte, n)
	rand.New(rand.NewSource(seed)).Read(b)
	return b
}

// madeKey: a key, of a seed.
func madeKey(seed int64) vault.Key {
	return vault.Key(made(seed, 32))
}

// edges of epochs and of numbers: those below 0, those whose bytes carry, and the last ones.
var edges = []int{
	math.MinInt, math.MinInt + 1, -1 << 32, -256, -2, -1, 0, 1, 2, 9, 10, 11, 127, 128, 255, 256, 257, 65535, 65536,
	1<<24 - 1, 1 << 24, 1<<31 - 1, 1 << 31, 1<<32 - 2, 1<<32 - 1, 1 << 32, 1<<32 + 1, 1 << 33, 1<<40 - 1, 1 << 40,
	1<<48 + 5, 1 << 56, 1 << 62, math.MaxInt - 1, math.MaxInt,
}

func TestTheLimitsNumberIsSpent(t *testing.T) { // P10.1: the chapter's example
	each(func(what string, make func(vault.Key, int) *vault.Vault) {
		for _, limit := range []int{0, 1, 2, 10, 256, 1 << 40} {
			v := make(madeKey(1), limit)
			if b, e := v.Seal(madeKey(2), 0, limit, []byte("text")); b != nil || e != api.ErrSpent {
				t.Errorf("%s: sealed with the number of the limit %d: %x, %d", what, limit, b, e)
			}
			if limit == 0 {
				continue
			}
			if b, e := v.Seal(madeKey(2), 0, limit-1, []byte("text")); len(b) != 20 || e != api.OK {
				t.Errorf("%s: the number below the limit %d: %x, %d", what, limit, b, e)
			}
		}
	})
}

func TestEdgesOfEpochsAndNumbers(t *testing.T) { // P10.1
	for _, limit := range []int{math.MinInt, -1, 0, 1, 10, 256, 1 << 32, math.MaxInt} {
		var calls []call
		for _, epoch := range edges {
			for _, seq := range edges {
				calls = append(calls, call{kind: 'S', key: madeKey(3), epoch: epoch, seq: seq, text: "a text", known: "known", cut: 2})
				sealed := library(madeKey(3)).Seal(nil, nonceOf(epoch, seq), []byte("a text"), []byte("known"))
				calls = append(calls, call{kind: 'O', key: madeKey(3), epoch: epoch, seq: seq, text: string(sealed), known: "known"})
			}
		}
		bothHold(t, "edges", madeKey(4), limit, calls...)
	}
}

func TestANonceInNumbers(t *testing.T) { // P10.1: of what the chapter says the bytes are, spelt out
	key := madeKey(5)
	v := vault.Real(key, math.MaxInt)
	s, _ := gcm.New(key[:])
	for _, c := range []struct {
		epoch, seq int
		nonce      gcm.Nonce
	}{
		{0, 0, gcm.Nonce{}},
		{0x01020304, 5, gcm.Nonce{4, 3, 2, 1, 5}},
		{0xfffefdfc, 0x0102030405060708, gcm.Nonce{0xfc, 0xfd, 0xfe, 0xff, 8, 7, 6, 5, 4, 3, 2, 1}},
		{1, 1 << 32, gcm.Nonce{1, 0, 0, 0, 0, 0, 0, 0, 1}},
	} {
		want, _ := s.Seal(c.nonce, []byte("text"))
		if b, e := v.Seal(key, c.epoch, c.seq, []byte("text")); e != api.OK || !bytes.Equal(b, want) {
			t.Errorf("epoch %x, number %x: %x, %d, not %x", c.epoch, c.seq, b, e, want)
		}
	}
}

func TestEachBitOfANonce(t *testing.T) { // P10.1
	var calls []call
	for bit := range 63 {
		calls = append(calls, call{kind: 'S', seq: 1 << bit, text: "text"}, call{kind: 'S', seq: math.MaxInt - 1<<bit, text: "text"})
	}
	for bit := range 32 {
		calls = append(calls, call{kind: 'S', epoch: 1 << bit, text: "text"}, call{kind: 'S', epoch: 1<<32 - 1 - 1<<bit, text: "text"})
	}
	bothHold(t, "each bit", madeKey(6), math.MaxInt, calls...)
}

func TestKeysOfPurposesAndNumbers(t *testing.T) { // P10.1
	var calls []call
	for _, purpose := range []string{"", "q", "queue", "token", "\x00", "\xff\xfe", strings.Repeat("p", 255), strings.Repeat("p", 256), strings.Repeat("p", api.MaxText+1)} {
		for _, numbers := range [][]int{nil, {}, {0}, {7}, {-1}, {0, 0}, {1, 2, 3}, edges} {
			calls = append(calls, call{kind: 'K', text: purpose, numbers: numbers})
		}
	}
	for seed := range int64(3) {
		bothHold(t, "keys", madeKey(seed), 10, slices.Concat(calls, calls)...)
	}
	bothHold(t, "keys of a master of noughts", vault.Key{}, 0, calls...)
}

func TestLongPurposes(t *testing.T) { // P10.1: one that layer 1 doesn't write stands for nothing
	master := madeKey(7)
	long := strings.Repeat("p", 1<<24)
	want, _ := kdf.Expand(master[:], 32, purposeOf(long[1:], 5))
	if k := vault.Real(master, 10).Key(long[1:], 5); k != vault.Key(want) {
		t.Errorf("the longest purpose that is written: %x, not %x", k, want)
	}
	want, _ = kdf.Expand(master[:], 32, []byte{5, 0, 0, 0, 0, 0, 0, 0})
	if k := vault.Real(master, 10).Key(long, 5); k != vault.Key(want) {
		t.Errorf("the shortest one that isn't: %x, not %x", k, want)
	}
}

func TestTagsAndDigests(t *testing.T) { // P10.1
	var calls []call
	for length := range 150 {
		text := string(made(8, length))
		calls = append(calls, call{kind: 'M', key: madeKey(9), text: text, cut: length / 2}, call{kind: 'H', text: text, cut: length / 3}, call{kind: 'M', text: text})
	}
	long := string(made(10, 2*api.MaxHash))
	calls = append(calls, call{kind: 'M', text: long, cut: 99}, call{kind: 'H', text: long, cut: 99})
	bothHold(t, "tags and digests", madeKey(11), 10, slices.Concat(calls, calls)...)
}

func TestNoPieces(t *testing.T) { // P10.1: none, and nothing, lead to the same
	each(func(what string, make func(vault.Key, int) *vault.Vault) {
		v := make(madeKey(12), 10)
		m, h := v.Mac(madeKey(13)), v.Hash()
		b, _ := v.Seal(madeKey(13), 1, 2, nil)
		for _, list := range [][][]byte{nil, {}, {nil}, {{}}, {nil, {}, nil}} {
			if v.Mac(madeKey(13), list...) != m || v.Hash(list...) != h {
				t.Errorf("%s: %v: another tag, or digest", what, list)
			}
			for _, none := range [][]byte{nil, {}} {
				if again, e := v.Seal(madeKey(13), 1, 2, none, list...); e != api.OK || !bytes.Equal(again, b) {
					t.Errorf("%s: %v: sealed as %x, %d, not %x", what, list, again, e, b)
				}
			}
			if text, e := v.Open(madeKey(13), 1, 2, b, list...); e != api.OK || len(text) != 0 {
				t.Errorf("%s: %v: opened as %x, %d", what, list, text, e)
			}
		}
		if v.Clashes() != 0 {
			t.Errorf("%s: %d clashes", what, v.Clashes())
		}
	})
}

func TestAllLengths(t *testing.T) { // P10.1
	var calls []call
	for length := range 200 {
		c := call{kind: 'S', key: madeKey(14), epoch: length % 3, seq: length, text: string(made(15, length)), known: string(made(16, 200-length)), cut: length}
		calls = append(calls, c, call{kind: 'S', key: c.key, epoch: 4, seq: length, text: c.text}, call{kind: 'S', key: c.key, epoch: 5, seq: length, known: c.text})
	}
	bothHold(t, "all lengths", madeKey(17), 200, calls...)
}

func TestAnIdealVaultIsItsWorlds(t *testing.T) { // P10.1: what it makes stands in that world, between what others make
	w := ideal.New()
	w.Hash([]byte("ahead"))
	v := vault.Ideal(w, madeKey(18), 10)
	other := vault.Ideal(w, madeKey(19), 10)
	k := v.Key("p", 1)
	if k[0] != 2 {
		t.Errorf("Key: %x", k)
	}
	if again := other.Key("p", 1); again[0] != 3 {
		t.Errorf("the other's Key: %x", again)
	}
	b, _ := v.Seal(k, 1, 2, []byte("text"))
	if text, e := other.Open(k, 1, 2, b); e != api.OK || string(text) != "text" {
		t.Errorf("the other opens it as %q, %d", text, e)
	}
	if text, e := w.Open(k[:], nonceOf(1, 2), b); e != api.OK || string(text) != "text" {
		t.Errorf("the world opens it as %q, %d", text, e)
	}
	if w.Size() != 4 {
		t.Errorf("%d things, not 4", w.Size())
	}
	if v.Hash([]byte("ahead"))[0] != 1 || w.Size() != 4 {
		t.Errorf("the digest that was made ahead is another one")
	}
}

// someTexts, of which many begin or end alike.
var someTexts = []string{"", "\x00", "a", "ab", "b", "aa", "a text of some more bytes than a block has"}

// anyCall: of few keys, epochs, numbers and texts, so that many are the same; one in three opens what was sealed, or something near it.
func anyCall(rnd *rand.Rand, seals []call) call {
	one := func() string { return someTexts[rnd.Intn(len(someTexts))] }
	c := call{kind: "SSSMHK"[rnd.Intn(6)], key: madeKey(rnd.Int63n(2)), epoch: rnd.Intn(2), seq: rnd.Intn(5), text: one(), known: one(), cut: rnd.Intn(50)}
	if rnd.Intn(8) == 0 {
		c.epoch = edges[rnd.Intn(len(edges))]
	}
	if rnd.Intn(8) == 0 {
		c.seq = edges[rnd.Intn(len(edges))]
	}
	for range rnd.Intn(3) {
		c.numbers = append(c.numbers, rnd.Intn(3)-1)
	}
	if len(seals) == 0 || rnd.Intn(3) > 0 {
		return c
	}
	x := seals[rnd.Intn(len(seals))]
	x.cut = c.cut
	switch rnd.Intn(8) {
	case 0:
		x.key = c.key
	case 1:
		x.epoch = c.epoch
	case 2:
		x.seq = c.seq
	case 3:
		x.known = c.known
	case 4:
		x.text = x.text[:rnd.Intn(len(x.text))]
	}
	return x
}

// anyCalls, so many; and how many of them open something, and how many clash.
func anyCalls(rnd *rand.Rand, real bool, master vault.Key, limit, count int) ([]call, int, int) {
	var calls, seals []call
	m, opening := newTwin(real, master, limit), 0
	for range count {
		c := anyCall(rnd, seals)
		calls = append(calls, c)
		b, e := m.answer(c)
		switch {
		case c.kind == 'O' && e == api.OK:
			opening++
		case c.kind == 'S' && e == api.OK:
			c.kind, c.text = 'O', string(b)
			seals = append(seals, c)
		}
	}
	return calls, opening, m.clashes
}

func TestAnyCalls(t *testing.T) { // P10.1: in every order
	rnd := rand.New(rand.NewSource(20))
	for _, real := range []bool{true, false} {
		opened, clashes := 0, 0
		for range 500 {
			master, limit := madeKey(rnd.Int63n(3)), rnd.Intn(8)-1
			calls, o, c := anyCalls(rnd, real, master, limit, rnd.Intn(80))
			holds(t, "made up", real, master, limit, calls...)
			opened, clashes = opened+o, clashes+c
		}
		if opened < 500 || clashes < 500 {
			t.Errorf("real %t: only %d were opened, only %d clashed", real, opened, clashes)
		}
	}
}

func TestVaultsKnowNothingOfOneAnother(t *testing.T) { // P10.1
	w := ideal.New()
	list := []*vault.Vault{
		vault.Real(madeKey(21), 10), vault.Real(madeKey(21), 10), vault.Real(madeKey(22), 20),
		vault.Ideal(w, madeKey(21), 10), vault.Ideal(w, madeKey(21), 10), vault.Ideal(w, madeKey(22), 20),
	}
	for i, v := range list {
		for k := range i + 1 { // the first text differs from vault to vault, which is no clash: only those behind it are
			v.Seal(madeKey(23), 1, 2, []byte(fmt.Sprint(i, k)))
		}
	}
	for i, v := range list {
		if v.Clashes() != i {
			t.Errorf("vault %d: %d clashes", i, v.Clashes())
		}
		if want := []int{10, 10, 20}[i%3]; v.Limit() != want {
			t.Errorf("vault %d: Limit %d, not %d", i, v.Limit(), want)
		}
	}
}

func FuzzAnyCalls(f *testing.F) { // P10.1, P10.2
	f.Add(make([]byte, 32), 0, 0, 10, []byte{}, []byte{}, int64(1))
	f.Add(made(1, 32), 1<<32-1, 9, 10, made(2, 40), made(3, 20), int64(2))
	f.Add(made(4, 32), -1, 1<<62, math.MaxInt, made(5, 3), made(6, 2), int64(3))
	f.Fuzz(func(t *testing.T, key []byte, epoch, seq, limit int, text, known []byte, seed int64) {
		rnd := rand.New(rand.NewSource(seed))
		var k vault.Key
		copy(k[:], key)
		for _, real := range []bool{true, false} {
			calls, _, _ := anyCalls(rnd, real, k, limit, 10)
			mine := call{kind: 'S', key: k, epoch: epoch, seq: seq, text: string(text), known: string(known), cut: rnd.Intn(50)}
			calls = slices.Insert(calls, rnd.Intn(len(calls)), mine)
			m := newTwin(real, k, limit)
			for _, c := range calls {
				if b, e := m.answer(c); e == api.OK && c.kind == 'S' {
					c.kind, c.text = 'O', string(b)
					calls = append(calls, c)
				}
			}
			for _, kind := range []byte("MHK") {
				mine.kind, mine.numbers = kind, []int{epoch, seq}
				calls = append(calls, mine)
			}
			holds(t, "made up", real, k, limit, calls...)
		}
	})
}
