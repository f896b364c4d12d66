package ideal_test

import (
	"bytes"
	"slices"
	"testing"

	"coffret/api"
	"coffret/ideal"
)

// spare is what stands behind a list that is handed in.
const spare = "SPARE ROOM, AS MUCH AS A SEAL AND A DIGEST HAVE MORE THAN A TEXT"

// roomy: a text's bytes, with spare room of other bytes behind them.
func roomy(s string) []byte {
	return []byte(s + spare)[:len(s)]
}

// isWhole: bytes, and the spare room behind them, are as they were.
func isWhole(t *testing.T, what string, b []byte, s string) {
	t.Helper()
	if all := string(b[:len(s)+len(spare)]); all != s+spare {
		t.Errorf("%s: %q, not %q", what, all, s+spare)
	}
}

// spoil writes over all of b, spare room included.
func spoil(b []byte) {
	b = b[:cap(b)]
	for i := range b {
		b[i] = '#'
	}
}

func TestWhatIsHandedInIsNotChanged(t *testing.T) { // P9.1
	for _, s := range some {
		w := ideal.New()
		key, nonce, text, one, two := roomy(s+"k"), roomy(s+"n"), roomy(s), roomy(s+"1"), roomy(s+"2")
		seal := roomy(string(bytesOf(1, 'S', len(s)+16)))
		list := [][]byte{one, two, []byte("more"), []byte("yet more")}
		for range 2 {
			w.Seal(key, nonce, text, list[:2]...)
			if b, e := w.Open(key, nonce, seal, list[:2]...); e != api.OK || string(b) != s {
				t.Errorf("opened as %x, %d, not %x", b, e, s)
			}
			w.Open(key, text, seal, list[:2]...)
			w.Open(key, nonce, seal[:9], list[:2]...)
			w.Mac(key, list[:2]...)
			w.Hash(list[:2]...)
			w.Derive(key, list[:2]...)
		}
		isWhole(t, "the key", key, s+"k")
		isWhole(t, "the nonce", nonce, s+"n")
		isWhole(t, "the text", text, s)
		isWhole(t, "a piece", list[0], s+"1")
		isWhole(t, "another piece", list[1], s+"2")
		isWhole(t, "the seal", seal, string(bytesOf(1, 'S', len(s)+16)))
		if &list[0][0] != &one[0] || &list[1][0] != &two[0] || string(list[2]) != "more" || string(list[3]) != "yet more" {
			t.Errorf("the list became %q", list)
		}
		if w.Size() != 4 {
			t.Errorf("Size %d, not 4: spare room was taken in", w.Size())
		}
	}
}

func TestWhatIsRefusedIsNotChanged(t *testing.T) { // P9.1
	var none *ideal.World
	long := slices.Repeat([]byte("l"), api.MaxHash+1)
	for _, w := range []*ideal.World{none, ideal.New()} {
		b := roomy("abc")
		w.Seal(b, b, long, b)
		w.Seal(b, b, b, b, long)
		w.Open(b, b, b, b)
		w.Open(b, b, long, long)
		isWhole(t, "refused", b, "abc")
	}
	if !bytes.Equal(long, slices.Repeat([]byte("l"), api.MaxHash+1)) {
		t.Errorf("the long one was changed")
	}
}

func TestWhatIsHandedInIsNotKept(t *testing.T) { // P9.1
	for _, kind := range []byte("SMHD") {
		for _, s := range some {
			w := ideal.New()
			c := call{kind: kind, key: s + "k", nonce: s + "n", text: s, known: s + "a"}
			key, nonce, text, known := roomy(c.key), roomy(c.nonce), roomy(c.text), roomy(c.known)
			list := [][]byte{text}
			switch kind {
			case 'S':
				list = [][]byte{known}
				w.Seal(key, nonce, text, list...)
			case 'M':
				w.Mac(key, list...)
			case 'H':
				w.Hash(list...)
			case 'D':
				w.Derive(key, list...)
			}
			for _, b := range [][]byte{key, nonce, text, known} {
				spoil(b)
			}
			list[0] = nil
			if b, e := ask(w, c); e != api.OK || b[0] != 1 || w.Size() != 1 {
				t.Errorf("%s: %x, %d, Size %d", tell(c), b, e, w.Size())
			}
			if kind == 'S' {
				opened(t, tell(c), w, c.key, c.nonce, bytesOf(1, 'S', len(s)+16), s, []byte(c.known))
			}
		}
	}
}

func TestWhatWasOpenedIsNotKept(t *testing.T) { // P9.1
	w := ideal.New()
	b := sealed(t, w, "k", "n", "text")
	text, _ := w.Open([]byte("k"), []byte("n"), b)
	spoil(b)
	if string(text) != "text" {
		t.Errorf("what was opened became %q", text)
	}
	again, e := w.Open([]byte("k"), []byte("n"), bytesOf(1, 'S', 20))
	if e != api.OK || string(again) != "text" {
		t.Errorf("opened again as %q, %d", again, e)
	}
}

func TestAnswersAreNewMemory(t *testing.T) { // P9.1
	for _, s := range some {
		w := ideal.New()
		want := bytesOf(1, 'S', len(s)+16)
		text := roomy(s)
		first, _ := w.Seal([]byte("k"), []byte("n"), text)
		second, _ := w.Seal([]byte("k"), []byte("n"), text)
		spoil(first)
		if !bytes.Equal(second, want) {
			t.Errorf("%q: two answers share memory: %x", s, second)
		}
		given := roomy(string(want))
		open := func() []byte {
			b, e := w.Open([]byte("k"), []byte("n"), given)
			if e != api.OK || string(b) != s {
				t.Errorf("%q is opened as %q, %d", s, b, e)
			}
			return b
		}
		one, two := open(), open()
		spoil(one)
		if string(two) != s {
			t.Errorf("%q: two answers share memory: %q", s, two)
		}
		spoil(two)
		open()
		isWhole(t, "what was sealed", text, s)
		isWhole(t, "the seal", given, string(want))
		if again := sealed(t, w, "k", "n", s); !bytes.Equal(again, want) {
			t.Errorf("%q: sealed again as %x, not %x", s, again, want)
		}
	}
}
