package ideal_test

import (
	"bytes"
	"encoding/binary"
	"encoding/hex"
	"fmt"
	"math/rand"
	"slices"
	"testing"

	"coffret/api"
	"coffret/ideal"
)

// call is one call of a world, and what is handed in to it.
type call struct {
	kind       byte // S, M, H, D, or O: Open
	key, nonce string
	text       string // of Open what is to be opened; of M, H and D all pieces
	known      string // besides
	cut        int    // where what is handed in as pieces is cut
}

// made is what something was made of, in a table that is gone over one by one.
type made struct {
	kind                    byte
	key, nonce, known, text string
}

// table: the chapter's words, spelt out.
type table []made

// bytesOf: a thing's bytes, as the chapter says them.
func bytesOf(number int, kind byte, count int) []byte {
	b := binary.LittleEndian.AppendUint64(nil, uint64(number))
	b = append(b, kind)
	for len(b) < count {
		b = append(b, 0xEE)
	}
	return b
}

// make: the number of a thing that is made.
func (m *table) make(x made) int {
	at := slices.Index(*m, x)
	if at < 0 {
		at = len(*m)
		*m = append(*m, x)
	}
	return at + 1
}

// answer: what the chapter says that a call answers.
func (m *table) answer(c call) ([]byte, api.Errno) {
	switch c.kind {
	case 'S':
		if len(c.text) > api.MaxHash || len(c.known) > api.MaxHash {
			return nil, api.ErrLong
		}
		number := m.make(made{'S', c.key, c.nonce, c.known, c.text})
		return bytesOf(number, 'S', len(c.text)+16), api.OK
	case 'O':
		for i, x := range *m {
			if x == (made{'S', c.key, c.nonce, c.known, x.text}) && c.text == string(bytesOf(i+1, 'S', len(x.text)+16)) {
				return []byte(x.text), api.OK
			}
		}
		return nil, api.ErrSeal
	case 'H':
		return bytesOf(m.make(made{kind: 'H', text: c.text}), 'H', 32), api.OK
	}
	return bytesOf(m.make(made{kind: c.kind, key: c.key, text: c.text}), c.kind, 32), api.OK
}

// pieces: bytes cut into three, of which the first, or the last, may have none.
func pieces(s string, cut int) [][]byte {
	at := int(uint(cut) % uint(len(s)+1))
	return [][]byte{[]byte(s[:at]), nil, []byte(s[at:])}
}

// ask: what a world answers to a call.
func ask(w *ideal.World, c call) ([]byte, api.Errno) {
	var b [32]byte
	switch c.kind {
	case 'S':
		return w.Seal([]byte(c.key), []byte(c.nonce), []byte(c.text), pieces(c.known, c.cut)...)
	case 'O':
		return w.Open([]byte(c.key), []byte(c.nonce), []byte(c.text), pieces(c.known, c.cut)...)
	case 'M':
		b = w.Mac([]byte(c.key), pieces(c.text, c.cut)...)
	case 'H':
		b = w.Hash(pieces(c.text, c.cut)...)
	case 'D':
		b = w.Derive([]byte(c.key), pieces(c.text, c.cut)...)
	}
	return b[:], api.OK
}

// holds a world's answers to calls, one behind the other, against the chapter's words.
func holds(t *testing.T, what string, calls []call) {
	t.Helper()
	w, m := ideal.New(), table{}
	for i, c := range calls {
		want, wantE := m.answer(c)
		got, e := ask(w, c)
		if e != wantE || !bytes.Equal(got, want) {
			t.Fatalf("%s: call %d, %s: %s, %d, not %s, %d", what, i, tell(c), short(got), e, short(want), wantE)
		}
		if w.Size() != len(m) {
			t.Fatalf("%s: call %d, %s: Size %d, not %d", what, i, tell(c), w.Size(), len(m))
		}
	}
}

// tell a call.
func tell(c call) string {
	return fmt.Sprintf("%c of key %q, nonce %q, text %s, known %s, cut %d", c.kind, c.key, c.nonce, short([]byte(c.text)), short([]byte(c.known)), c.cut)
}

// short tells bytes, or the first ones of many.
func short(b []byte) string {
	if len(b) <= 64 {
		return fmt.Sprintf("%x", b)
	}
	return fmt.Sprintf("%x.. (%d bytes)", b[:64], len(b))
}

// sealed: what a text is sealed as.
func sealed(t *testing.T, w *ideal.World, key, nonce, text string, known ...[]byte) []byte {
	t.Helper()
	b, e := w.Seal([]byte(key), []byte(nonce), []byte(text), known...)
	if e != api.OK || len(b) != len(text)+16 {
		t.Fatalf("%s is sealed as %s, %d", short([]byte(text)), short(b), e)
	}
	return b
}

// opened: what was sealed is opened as a text.
func opened(t *testing.T, what string, w *ideal.World, key, nonce string, b []byte, text string, known ...[]byte) {
	t.Helper()
	if got, e := w.Open([]byte(key), []byte(nonce), b, known...); e != api.OK || string(got) != text {
		t.Errorf("%s: %s is opened as %s, %d, not %s", what, short(b), short(got), e, short([]byte(text)))
	}
}

// is: so many bytes, told in hexadecimal.
func is(t *testing.T, what string, got []byte, want string) {
	t.Helper()
	if hex.EncodeToString(got) != want {
		t.Errorf("%s: %x, not %s", what, got, want)
	}
}

func TestTheFirstDigest(t *testing.T) { // P9.1: the chapter's example
	for _, text := range []string{"", "a", "anything"} {
		d := ideal.New().Hash([]byte(text))
		is(t, text, d[:], "010000000000000048"+"eeeeeeeeeeeeeeeeeeeeeeeeeeeeeeeeeeeeeeeeeeeeee")
	}
}

func TestAThingOfEachKind(t *testing.T) { // P9.1: they are counted over all kinds
	w := ideal.New()
	if w.Size() != 0 {
		t.Errorf("Size %d of a new world", w.Size())
	}
	const fill = "eeeeeeeeeeeeeeeeeeeeeeeeeeeeeeeeeeeeeeeeeeeeee"
	key := w.Derive([]byte("k"), []byte("text"))
	is(t, "Derive", key[:], "010000000000000044"+fill)
	tag := w.Mac([]byte("k"), []byte("text"))
	is(t, "Mac", tag[:], "02000000000000004d"+fill)
	digest := w.Hash([]byte("text"))
	is(t, "Hash", digest[:], "030000000000000048"+fill)
	is(t, "Seal", sealed(t, w, "k", "", "text"), "040000000000000053"+"eeeeeeeeeeeeeeeeeeeeee")
	is(t, "Seal of no text", sealed(t, w, "k", "", ""), "050000000000000053"+"eeeeeeeeeeeeee")
	if w.Size() != 5 {
		t.Errorf("Size %d, not 5", w.Size())
	}
}

func TestMadeAgain(t *testing.T) { // P9.1
	var calls []call
	for _, kind := range []byte("SMHD") {
		for _, text := range []string{"", "x", "some text"} {
			calls = append(calls, call{kind: kind, key: "k", nonce: "n", text: text, known: text})
		}
	}
	w := ideal.New()
	var first [][]byte
	for _, c := range calls {
		b, _ := ask(w, c)
		first = append(first, b)
	}
	for range 3 {
		for i := len(calls) - 1; i >= 0; i-- {
			if b, e := ask(w, calls[i]); e != api.OK || !bytes.Equal(b, first[i]) {
				t.Errorf("%s: %x, %d, not %x", tell(calls[i]), b, e, first[i])
			}
		}
	}
	if w.Size() != len(calls) {
		t.Errorf("Size %d, not %d", w.Size(), len(calls))
	}
}

func TestOnePartTwice(t *testing.T) { // P9.1: pieces aren't the same where they are handed in as another part
	holds(t, "parts", []call{
		{kind: 'S', key: "a", nonce: "a", text: "a", known: "a"},
		{kind: 'S', key: "a", nonce: "a", text: "aa"},
		{kind: 'S', key: "aa", nonce: "a", text: "a"},
		{kind: 'S', key: "a", nonce: "aa", text: "a"},
		{kind: 'S', nonce: "aa", text: "a", known: "a"},
		{kind: 'M', key: "a", text: "a"},
		{kind: 'M', key: "aa"},
		{kind: 'M', text: "aa"},
		{kind: 'D', key: "a", text: "a"},
		{kind: 'D', key: "aa"},
		{kind: 'D', text: "aa"},
		{kind: 'H', text: "aa"},
		{kind: 'S', key: "a", nonce: "a", text: "a", known: "a"},
		{kind: 'D', key: "a", text: "a", cut: 1},
	})
}

func TestInEveryOrder(t *testing.T) { // P9.1
	calls := []call{
		{kind: 'S', key: "k", nonce: "n", text: "ab", known: "c"},
		{kind: 'O', key: "k", nonce: "n", text: string(bytesOf(1, 'S', 18)), known: "c"},
		{kind: 'S', key: "k", nonce: "n", text: "yz", known: "c"},
		{kind: 'O', key: "k", nonce: "n", text: string(bytesOf(3, 'S', 18)), known: "c"},
		{kind: 'M', key: "k", text: "ab"},
		{kind: 'H', text: "ab"},
		{kind: 'D', key: "k", text: "ab"},
	}
	orders := 0
	var visit func(done, left []call)
	visit = func(done, left []call) {
		if len(left) == 0 {
			holds(t, "an order", slices.Concat(done, done))
			orders++
		}
		for i, c := range left {
			rest := append(slices.Clone(left[:i]), left[i+1:]...)
			visit(append(slices.Clone(done), c), rest)
		}
	}
	visit(nil, calls)
	if orders != 5040 {
		t.Errorf("%d orders", orders)
	}
}

// some texts, of which many begin or end alike.
var some = []string{"", "\x00", "a", "ab", "b", "aa", "abc", "\xee", "S", "a text of more bytes than a digest has"}

// anyCall: of few texts, so that things are made again; one in three opens what stands in a table, or something near it.
func anyCall(rnd *rand.Rand, m table) call {
	one := func() string { return some[rnd.Intn(len(some))] }
	c := call{kind: "SSMHD"[rnd.Intn(5)], key: one(), nonce: one(), text: one(), known: one(), cut: rnd.Intn(50)}
	if len(m) == 0 || rnd.Intn(3) > 0 {
		return c
	}
	at := rnd.Intn(len(m))
	x := m[at]
	b := bytesOf(at+1, 'S', len(x.text)+16)
	c = call{kind: 'O', key: x.key, nonce: x.nonce, known: x.known, cut: rnd.Intn(50)}
	switch rnd.Intn(10) {
	case 0:
		c.key = one()
	case 1:
		c.nonce = one()
	case 2:
		c.known = one()
	case 3:
		b[rnd.Intn(len(b))]++
	case 4:
		b = b[:rnd.Intn(len(b))]
	}
	c.text = string(b)
	return c
}

// anyCalls, so many; and how many of them open something.
func anyCalls(rnd *rand.Rand, count int) ([]call, int) {
	var calls []call
	m, opening := table{}, 0
	for range count {
		c := anyCall(rnd, m)
		calls = append(calls, c)
		if _, e := m.answer(c); e == api.OK && c.kind == 'O' {
			opening++
		}
	}
	return calls, opening
}

func TestAnyCalls(t *testing.T) { // P9.1
	rnd := rand.New(rand.NewSource(1))
	all := 0
	for range 2000 {
		calls, opening := anyCalls(rnd, rnd.Intn(80))
		holds(t, "made up", calls)
		all += opening
	}
	if all < 5000 {
		t.Errorf("only %d were opened", all)
	}
}

func TestManyThings(t *testing.T) { // P9.1: numbers of one byte, two and three
	w := ideal.New()
	const many = 70000
	for i := range many {
		text := fmt.Sprint(i)
		switch kind := "SMHD"[i%4]; kind {
		case 'S':
			if b := sealed(t, w, "k", "n", text); !bytes.Equal(b, bytesOf(i+1, 'S', len(text)+16)) {
				t.Fatalf("thing %d: %x", i+1, b)
			}
		default:
			if b, _ := ask(w, call{kind: kind, key: "k", text: text}); !bytes.Equal(b, bytesOf(i+1, kind, 32)) {
				t.Fatalf("thing %d: %x", i+1, b)
			}
		}
	}
	if w.Size() != many {
		t.Errorf("Size %d, not %d", w.Size(), many)
	}
	for _, i := range []int{0, 252, 256, 65532, 65536, many - 4} { // these are seals
		text := fmt.Sprint(i)
		opened(t, "one of many", w, "k", "n", bytesOf(i+1, 'S', len(text)+16), text)
	}
}

func TestPiecesOneBehindTheOther(t *testing.T) { // P9.1: however they are cut
	const text = "one behind the other"
	w := ideal.New()
	a := sealed(t, w, "k", "n", text, []byte(text))
	m, h, d := w.Mac([]byte("k"), []byte(text)), w.Hash([]byte(text)), w.Derive([]byte("k"), []byte(text))
	var each [][]byte
	for i := range text {
		each = append(each, []byte(text[i:i+1]))
	}
	cuts := [][][]byte{each, {nil, []byte(text), {}}}
	for i := range text {
		cuts = append(cuts, [][]byte{[]byte(text[:i]), []byte(text[i:])}, [][]byte{[]byte(text[:i/2]), []byte(text[i/2 : i]), nil, []byte(text[i:])})
	}
	for _, cut := range cuts {
		if b := sealed(t, w, "k", "n", text, cut...); !bytes.Equal(a, b) {
			t.Errorf("%q: sealed as %x, not %x", cut, b, a)
		}
		opened(t, fmt.Sprintf("%q", cut), w, "k", "n", a, text, cut...)
		if w.Mac([]byte("k"), cut...) != m || w.Hash(cut...) != h || w.Derive([]byte("k"), cut...) != d {
			t.Errorf("%q: another tag, digest or key", cut)
		}
	}
	if w.Size() != 4 {
		t.Errorf("Size %d, not 4", w.Size())
	}
}

func TestNothingIsSomething(t *testing.T) { // P9.1: of no bytes something is made, too; nil and empty are the same
	w := ideal.New()
	is(t, "Seal", sealed(t, w, "", "", ""), "010000000000000053"+"eeeeeeeeeeeeee")
	m, h, d := w.Mac(nil), w.Hash(), w.Derive(nil)
	if m[0] != 2 || h[0] != 3 || d[0] != 4 || w.Size() != 4 {
		t.Errorf("%x, %x, %x, Size %d", m, h, d, w.Size())
	}
	for _, none := range [][]byte{nil, {}, []byte("abc")[:0]} {
		for _, list := range [][][]byte{nil, {}, {none}, {none, nil, {}}} {
			b, e := w.Seal(none, none, none, list...)
			if e != api.OK || b[0] != 1 {
				t.Errorf("%v: sealed as %x, %d", list, b, e)
			}
			if text, e := w.Open(none, none, b, list...); e != api.OK || len(text) != 0 {
				t.Errorf("%v: opened as %x, %d", list, text, e)
			}
			if w.Mac(none, list...) != m || w.Hash(list...) != h || w.Derive(none, list...) != d {
				t.Errorf("%v: another tag, digest or key", list)
			}
		}
	}
	if w.Size() != 4 {
		t.Errorf("Size %d, not 4", w.Size())
	}
}

func TestLongOnes(t *testing.T) { // P9.1: what isn't sealed may have more than MaxHash bytes
	w := ideal.New()
	long := bytes.Repeat([]byte("long"), api.MaxHash)
	other := bytes.Clone(long)
	other[len(other)-1]++
	for i, b := range [][]byte{long, other, long[1:]} {
		m, h, d := w.Mac(b, b), w.Hash(b, b), w.Derive(b, b)
		is(t, "Mac", m[:9], fmt.Sprintf("%02x000000000000004d", 3*i+1))
		is(t, "Hash", h[:9], fmt.Sprintf("%02x0000000000000048", 3*i+2))
		is(t, "Derive", d[:9], fmt.Sprintf("%02x0000000000000044", 3*i+3))
	}
	if d := w.Hash(long[:5], long[5:], long); d[0] != 2 || w.Size() != 9 {
		t.Errorf("made again: %x, Size %d", d, w.Size())
	}
	b, e := w.Seal(long, long, []byte("abc")) // a key, and a nonce, may have, too
	if e != api.OK || b[0] != 10 {
		t.Errorf("sealed as %x, %d", b, e)
	}
	opened(t, "a long key", w, string(long), string(long), b, "abc")
	isNotOpened(t, "another long key", w, string(other), string(long), b)
}

func FuzzAnyCalls(f *testing.F) { // P9.1, P9.2, P9.3
	f.Add([]byte("k"), []byte("n"), []byte("text"), []byte("known"), int64(1))
	f.Add([]byte{}, []byte{1, 0}, []byte{}, []byte{0xee}, int64(2))
	f.Fuzz(func(t *testing.T, key, nonce, text, known []byte, seed int64) {
		rnd := rand.New(rand.NewSource(seed))
		calls, _ := anyCalls(rnd, 20)
		at := rnd.Intn(len(calls))
		mine := call{kind: 'S', key: string(key), nonce: string(nonce), text: string(text), known: string(known), cut: at}
		calls = slices.Insert(calls, at, mine)
		for _, kind := range []byte("MHD") {
			mine.kind = kind
			calls = append(calls, mine)
		}
		mine.kind = 'O'
		for i := range calls { // one of them opens it
			mine.text = string(bytesOf(i+1, 'S', len(text)+16))
			calls = append(calls, mine)
		}
		holds(t, "made up", calls)
	})
}
