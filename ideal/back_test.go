package ideal_test

import (
	"bytes"
	"fmt"
	"strings"
	"testing"

	"coffret/api"
	"coffret/ideal"
)

// isNotOpened: Open answers ErrSeal, and nothing besides.
func isNotOpened(t *testing.T, what string, w *ideal.World, key, nonce string, b []byte, known ...[]byte) {
	t.Helper()
	size := w.Size()
	if got, e := w.Open([]byte(key), []byte(nonce), b, known...); got != nil || e != api.ErrSeal {
		t.Errorf("%s: %s is opened as %s, %d", what, short(b), short(got), e)
	}
	if w.Size() != size {
		t.Errorf("%s: Size %d, not %d", what, w.Size(), size)
	}
}

// others: texts that aren't s, but near it.
func others(s string) []string {
	list := []string{s + "\x00", "\x00" + s, s + "a", s + s + "b", s + "\xee"}
	for i := range s {
		list = append(list, s[:i], s[i+1:]+"c")
		for bit := range 8 {
			list = append(list, s[:i]+string([]byte{s[i] ^ 1<<bit})+s[i+1:])
		}
	}
	return list
}

// sealsOf: one seal for each of some keys, nonces, texts and things known besides.
func sealsOf() []call {
	var list []call
	for _, key := range []string{"", "k", "key"} {
		for _, nonce := range []string{"", "n", "twelve bytes"} {
			for _, text := range []string{"", "t", "a text", strings.Repeat("x", 300)} {
				for _, known := range []string{"", "a", "known besides"} {
					list = append(list, call{kind: 'S', key: key, nonce: nonce, text: text, known: known, cut: len(list)})
				}
			}
		}
	}
	return list
}

func TestThereAndBack(t *testing.T) { // P9.2
	w := ideal.New()
	seals := map[int][]byte{}
	for i, c := range sealsOf() {
		seals[i] = sealed(t, w, c.key, c.nonce, c.text, []byte(c.known))
		opened(t, tell(c), w, c.key, c.nonce, seals[i], c.text, []byte(c.known))
	}
	for i, c := range sealsOf() { // behind all others, again and again
		for range 2 {
			opened(t, tell(c), w, c.key, c.nonce, seals[i], c.text, pieces(c.known, i)...)
		}
	}
	if w.Size() != len(seals) {
		t.Errorf("Size %d, not %d: opening made something", w.Size(), len(seals))
	}
}

func TestSealedAgain(t *testing.T) { // P9.2
	w := ideal.New()
	for _, c := range sealsOf() {
		sealed(t, w, c.key, c.nonce, c.text, []byte(c.known))
	}
	for _, c := range sealsOf() {
		b := sealed(t, w, c.key, c.nonce, c.text, []byte(c.known))
		opened(t, tell(c), w, c.key, c.nonce, b, c.text, []byte(c.known))
	}
}

func TestByTheSameAlone(t *testing.T) { // P9.2: each seal by each other one's key, nonce and known besides
	w, list := ideal.New(), sealsOf()
	for _, c := range list {
		sealed(t, w, c.key, c.nonce, c.text, []byte(c.known))
	}
	for i, c := range list {
		b := bytesOf(i+1, 'S', len(c.text)+16)
		for _, other := range list {
			if c.key == other.key && c.nonce == other.nonce && c.known == other.known {
				opened(t, tell(c), w, other.key, other.nonce, b, c.text, []byte(other.known))
			} else {
				isNotOpened(t, tell(c), w, other.key, other.nonce, b, []byte(other.known))
			}
		}
	}
}

func TestOfAnother(t *testing.T) { // P9.2
	w := ideal.New()
	const key, nonce, text, known = "key", "nonce", "text", "known"
	b := sealed(t, w, key, nonce, text, []byte(known))
	for _, x := range others(key) {
		isNotOpened(t, fmt.Sprintf("the key %q", x), w, x, nonce, b, []byte(known))
	}
	for _, x := range others(nonce) {
		isNotOpened(t, fmt.Sprintf("the nonce %q", x), w, key, x, b, []byte(known))
	}
	for _, x := range others(known) {
		isNotOpened(t, fmt.Sprintf("known besides %q", x), w, key, nonce, b, []byte(x))
	}
	isNotOpened(t, "nothing known besides", w, key, nonce, b)
	isNotOpened(t, "known twice", w, key, nonce, b, []byte(known), []byte(known))
	isNotOpened(t, "in another order", w, key, nonce, b, []byte(known[2:]), []byte(known[:2]))
	isNotOpened(t, "bytes moved to the key", w, key+nonce[:1], nonce[1:], b, []byte(known))
	isNotOpened(t, "bytes moved to the nonce", w, key[:2], key[2:]+nonce, b, []byte(known))
	isNotOpened(t, "bytes moved to what is known besides", w, key, nonce[:3], b, []byte(nonce[3:]), []byte(known))
	isNotOpened(t, "exchanged", w, nonce, key, b, []byte(known))
	isNotOpened(t, "the text known, too", w, key, nonce, b, []byte(known), []byte(text))
	opened(t, "behind all that", w, key, nonce, b, text, []byte(known))
}

func TestOtherBytes(t *testing.T) { // P9.2: each byte by each other one, fewer, and more
	w := ideal.New()
	for range 3 {
		w.Hash([]byte(fmt.Sprint(w.Size())))
	}
	for _, text := range []string{"", "t", "a text"} {
		b := sealed(t, w, "k", "n", text, []byte("a"))
		for at := range b {
			for x := 1; x < 256; x++ {
				other := bytes.Clone(b)
				other[at] ^= byte(x)
				isNotOpened(t, fmt.Sprintf("byte %d with %x", at, x), w, "k", "n", other, []byte("a"))
			}
		}
		for length := range b {
			isNotOpened(t, fmt.Sprintf("the first %d", length), w, "k", "n", b[:length], []byte("a"))
			isNotOpened(t, fmt.Sprintf("the last %d", length), w, "k", "n", b[len(b)-length:], []byte("a"))
		}
		isNotOpened(t, "one more", w, "k", "n", append(bytes.Clone(b), 0xee), []byte("a"))
		isNotOpened(t, "a nought more", w, "k", "n", append(bytes.Clone(b), 0), []byte("a"))
		isNotOpened(t, "one ahead", w, "k", "n", append([]byte{0}, b...), []byte("a"))
		isNotOpened(t, "twice", w, "k", "n", append(bytes.Clone(b), b...), []byte("a"))
	}
}

func TestNoNumber(t *testing.T) { // P9.2: numbers that nothing has
	w := ideal.New()
	for length := range 40 {
		isNotOpened(t, "nothing was made", w, "", "", make([]byte, length))
		isNotOpened(t, "nothing was made", w, "", "", bytesOf(1, 'S', 9+length))
	}
	b := sealed(t, w, "", "", "")
	for _, number := range []int{0, -1, 2, 256, 257, 1 << 8 << 48, 1 << 32, 1<<32 + 1, 1<<62 + 1, -1 << 63, -1<<63 + 1, 1<<63 - 1} {
		isNotOpened(t, fmt.Sprintf("number %d", number), w, "", "", bytesOf(number, 'S', 16))
	}
	for kind := range 256 {
		isNotOpened(t, fmt.Sprintf("number 0, kind %d", kind), w, "", "", bytesOf(0, byte(kind), 16))
	}
	opened(t, "number 1", w, "", "", b, "")
}

func TestTheLengthOfAnother(t *testing.T) { // P9.2: the bytes of a seal of that number, and of another length
	w := ideal.New()
	for length := range 40 {
		sealed(t, w, "k", "n", strings.Repeat("x", length))
	}
	for number := 1; number <= 40; number++ {
		for count := 9; count < 80; count++ {
			if b := bytesOf(number, 'S', count); count == number+15 {
				opened(t, "its own length", w, "k", "n", b, strings.Repeat("x", number-1))
			} else {
				isNotOpened(t, fmt.Sprintf("number %d, %d bytes", number, count), w, "k", "n", b)
			}
		}
	}
}

func TestThingsOfOtherKinds(t *testing.T) { // P9.2: a tag, a digest and a key aren't opened, not even with a seal's letter
	for _, text := range []string{"", "a text of sixteen", "0123456789abcdef"} {
		w := ideal.New()
		m, h, d := w.Mac([]byte("k"), []byte(text)), w.Hash([]byte(text)), w.Derive([]byte("k"), []byte(text))
		for i, b := range [][32]byte{m, h, d} {
			for _, key := range []string{"", "k"} {
				isNotOpened(t, "as it is", w, key, "", b[:])
				isNotOpened(t, "the first 16", w, key, "", b[:16])
				isNotOpened(t, "with a seal's letter", w, key, "", bytesOf(i+1, 'S', 32))
				isNotOpened(t, "with a seal's letter and length", w, key, "", bytesOf(i+1, 'S', len(text)+16))
			}
		}
	}
}

func TestTheNextNumberGuessed(t *testing.T) { // P9.2: its bytes aren't opened as long as it isn't made
	w := ideal.New()
	for i := range 5 {
		text := fmt.Sprint("text ", i)
		guess := bytesOf(i+1, 'S', len(text)+16)
		isNotOpened(t, "ahead", w, "k", "n", guess)
		sealed(t, w, "k", "n", text)
		opened(t, "behind", w, "k", "n", guess, text)
	}
}

func TestTwoTextsOfOneNonce(t *testing.T) { // P9.2: each is opened as itself
	w := ideal.New()
	yes, no := sealed(t, w, "k", "n", "yes"), sealed(t, w, "k", "n", "no!")
	opened(t, "the first", w, "k", "n", yes, "yes")
	opened(t, "the second", w, "k", "n", no, "no!")
	isNotOpened(t, "with another nonce", w, "k", "m", yes)
}

func TestOfAnotherWorld(t *testing.T) { // P9.2: it is opened where that very seal was made
	one, two := ideal.New(), ideal.New()
	b := sealed(t, one, "k", "n", "yes")
	isNotOpened(t, "an empty world", two, "k", "n", b)
	two.Hash(nil)
	sealed(t, two, "k", "n", "yes")
	isNotOpened(t, "of another number there", two, "k", "n", b)
	other := ideal.New()
	sealed(t, other, "k", "n", "no!")
	opened(t, "of the same number there", other, "k", "n", b, "no!")
	opened(t, "in its own", one, "k", "n", b, "yes")
}

func TestFullTexts(t *testing.T) { // P9.2
	w := ideal.New()
	text, known := strings.Repeat("text", api.MaxHash/4), bytes.Repeat([]byte("a"), api.MaxHash)
	b := sealed(t, w, "k", "n", text, known)
	opened(t, "both full", w, "k", "n", b, text, known[:7], known[7:])
	isNotOpened(t, "known besides a byte fewer", w, "k", "n", b, known[1:])
	isNotOpened(t, "known besides a byte more", w, "k", "n", b, known, known[:1])
	isNotOpened(t, "a byte fewer", w, "k", "n", b[:len(b)-1], known)
	b[len(b)-1] ^= 1
	isNotOpened(t, "a bit turned", w, "k", "n", b, known)
}
