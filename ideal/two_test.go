package ideal_test

import (
	"bytes"
	"strings"
	"testing"

	"coffret/api"
	"coffret/ideal"
)

// eachThing calls with all things that are made of few texts, each one once.
func eachThing(visit func(c call)) {
	texts := []string{"", "a", "aa", "b", "ab", "\x00", "S"}
	for _, key := range texts {
		for _, text := range texts {
			visit(call{kind: 'M', key: key, text: text})
			visit(call{kind: 'D', key: key, text: text})
			for _, nonce := range texts {
				for _, known := range texts {
					visit(call{kind: 'S', key: key, nonce: nonce, text: text, known: known})
				}
			}
		}
		visit(call{kind: 'H', text: key})
	}
}

func TestTwoAreTwo(t *testing.T) { // P9.3
	w := ideal.New()
	seen := map[string]call{}
	eachThing(func(c call) {
		b, e := ask(w, c)
		if other, ok := seen[string(b)]; ok || e != api.OK {
			t.Errorf("%s, %d: of %s, and of %s", short(b), e, tell(c), tell(other))
		}
		seen[string(b)] = c
	})
	if want := 7*7*2 + 7*7*7*7 + 7; len(seen) != want || w.Size() != want {
		t.Errorf("%d things, Size %d, not %d", len(seen), w.Size(), want)
	}
	for b, c := range seen { // and each of them is itself still
		if again, e := ask(w, c); e != api.OK || string(again) != b {
			t.Errorf("%s: %x, %d, not %x", tell(c), again, e, b)
		}
	}
}

func TestFullTextsThatDifferAtTheirEnds(t *testing.T) { // P9.3
	w := ideal.New()
	full := strings.Repeat("x", api.MaxHash-1)
	list := []string{full, full + "a", full + "b", "a" + full, "b" + full}
	number := 0
	for _, kind := range []byte("SMHD") {
		for _, s := range list {
			number++
			if b, e := ask(w, call{kind: kind, key: "k", text: s}); e != api.OK || !bytes.Equal(b[:9], bytesOf(number, kind, 9)) {
				t.Errorf("%s: %s, %d, not thing %d", short([]byte(s)), short(b), e, number)
			}
		}
	}
	for _, s := range list {
		number++
		if b := sealed(t, w, "k", "n", "text", []byte(s)); !bytes.Equal(b, bytesOf(number, 'S', 20)) {
			t.Errorf("known besides %s: %x, not thing %d", short([]byte(s)), b, number)
		}
	}
	for i, s := range list {
		opened(t, "a full text", w, "k", "", bytesOf(i+1, 'S', len(s)+16), s)
		opened(t, "known besides, full", w, "k", "n", bytesOf(number-len(list)+i+1, 'S', 20), "text", []byte(s))
	}
}

func TestTwoNumbersStandInEightBytes(t *testing.T) { // P9.3: so seals of two lengths differ ahead of their ends, too
	w := ideal.New()
	seen := map[string]bool{}
	for length := range 600 {
		b := sealed(t, w, "k", "n", strings.Repeat("x", length))
		if seen[string(b[:8])] {
			t.Errorf("%x, twice", b)
		}
		seen[string(b[:8])] = true
	}
}

func TestASealDoesNotHangOnItsText(t *testing.T) { // P9.3
	for _, length := range []int{0, 1, 2, 15, 16, 17, 1000, api.MaxHash} {
		one, two := ideal.New(), ideal.New()
		for range 3 {
			for _, w := range []*ideal.World{one, two} {
				w.Hash([]byte{byte(w.Size())})
			}
			zeros, ones := strings.Repeat("\x00", length), strings.Repeat("\x01", length)
			a := sealed(t, one, "k", "n", zeros)
			b := sealed(t, two, "another key", "another nonce", ones, []byte("known besides"))
			if !bytes.Equal(a, b) {
				t.Errorf("%d bytes: %s and %s", length, short(a), short(b))
			}
			opened(t, "the first", one, "k", "n", a, zeros)
			opened(t, "the second", two, "another key", "another nonce", b, ones, []byte("known besides"))
		}
	}
}

func TestASealHangsOnWhenItWasMadeFirst(t *testing.T) { // P9.3
	texts := []string{"", "one", "two", "one more", "and another"}
	for start := range texts {
		w := ideal.New()
		for i := range texts {
			text := texts[(start+i)%len(texts)]
			want := bytesOf(i+1, 'S', len(text)+16)
			for range 2 { // made again it is the same
				if b := sealed(t, w, "k", "n", text); !bytes.Equal(b, want) {
					t.Errorf("%q as thing %d: %x, not %x", text, i+1, b, want)
				}
			}
		}
		for i := range texts { // nor does it matter what was made between
			text := texts[(start+i)%len(texts)]
			if b, want := sealed(t, w, "k", "n", text), bytesOf(i+1, 'S', len(text)+16); !bytes.Equal(b, want) {
				t.Errorf("%q as thing %d, again: %x, not %x", text, i+1, b, want)
			}
		}
	}
}

func TestASealHangsOnItsTextsLength(t *testing.T) { // P9.3
	for length := range 300 {
		b := sealed(t, ideal.New(), "k", "n", strings.Repeat("x", length), []byte("known"))
		if want := bytesOf(1, 'S', length+16); !bytes.Equal(b, want) {
			t.Errorf("%d bytes: %x, not %x", length, b, want)
		}
	}
}

func TestWorldsKnowNothingOfOneAnother(t *testing.T) { // P9.1, P9.3
	var worlds []*ideal.World
	for range 10 {
		worlds = append(worlds, ideal.New())
	}
	for i, w := range worlds {
		for range i {
			w.Hash([]byte{byte(w.Size())})
		}
	}
	for i, w := range worlds {
		if w.Size() != i {
			t.Errorf("world %d: Size %d", i, w.Size())
		}
		if d := w.Derive([]byte("k")); int(d[0]) != i+1 {
			t.Errorf("world %d: %x", i, d)
		}
	}
}
