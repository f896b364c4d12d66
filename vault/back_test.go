package vault_test

import (
	"bytes"
	"fmt"
	"math"
	"strings"
	"testing"

	"coffret/api"
	"coffret/ideal"
	"coffret/vault"
)

// sealed: what a text is sealed as.
func sealed(t *testing.T, v *vault.Vault, k vault.Key, epoch, seq int, text string, known ...[]byte) []byte {
	t.Helper()
	b, e := v.Seal(k, epoch, seq, []byte(text), known...)
	if e != api.OK || len(b) != len(text)+16 {
		t.Fatalf("%s is sealed as %s, %d", short([]byte(text)), short(b), e)
	}
	return b
}

// opened: what was sealed is opened as a text.
func opened(t *testing.T, what string, v *vault.Vault, k vault.Key, epoch, seq int, b []byte, text string, known ...[]byte) {
	t.Helper()
	if got, e := v.Open(k, epoch, seq, b, known...); e != api.OK || string(got) != text {
		t.Errorf("%s: %s is opened as %s, %d, not %s", what, short(b), short(got), e, short([]byte(text)))
	}
}

// isRefused: Open answers an error, and nothing besides.
func isRefused(t *testing.T, what string, want api.Errno, v *vault.Vault, k vault.Key, epoch, seq int, b []byte, known ...[]byte) {
	t.Helper()
	if got, e := v.Open(k, epoch, seq, b, known...); got != nil || e != want {
		t.Errorf("%s: %s is opened as %s, %d, not %d", what, short(b), short(got), e, want)
	}
}

// isNotOpened: it isn't what was sealed.
func isNotOpened(t *testing.T, what string, v *vault.Vault, k vault.Key, epoch, seq int, b []byte, known ...[]byte) {
	t.Helper()
	isRefused(t, what, api.ErrSeal, v, k, epoch, seq, b, known...)
}

// others: texts that aren't s, but near it.
func others(s string) []string {
	list := []string{s + "\x00", "\x00" + s, s + "a", s + s + "b"}
	for i := range s {
		list = append(list, s[:i], s[i+1:]+"c")
		for bit := range 8 {
			list = append(list, s[:i]+string([]byte{s[i] ^ 1<<bit})+s[i+1:])
		}
	}
	return list
}

func TestThereAndBack(t *testing.T) { // P10.2
	each(func(what string, make func(vault.Key, int) *vault.Vault) {
		v := make(madeKey(1), math.MaxInt)
		seals := map[int][]byte{}
		places := []place{{}, {seq: 1}, {epoch: 1}, {madeKey(2), 0, 0}, {madeKey(2), 1<<32 - 1, math.MaxInt - 1}, {madeKey(2), 255, 256}, {madeKey(3), 256, 255}}
		for i, at := range places {
			for length := range 40 {
				seals[i*40+length] = sealed(t, v, at.key, at.epoch, at.seq, string(made(4, length)), made(5, 40-length))
			}
		}
		for i, at := range places { // behind all others, and again
			for length := range 40 {
				for range 2 {
					opened(t, what, v, at.key, at.epoch, at.seq, seals[i*40+length], string(made(4, length)), made(5, 40-length))
				}
			}
		}
	})
}

func TestHoweverItIsCut(t *testing.T) { // P10.2
	each(func(what string, make func(vault.Key, int) *vault.Vault) {
		v := make(madeKey(6), 10)
		known := made(7, 40)
		b := sealed(t, v, madeKey(8), 1, 2, "text", known)
		for cut := range len(known) + 1 {
			opened(t, what, v, madeKey(8), 1, 2, b, "text", known[:cut], nil, known[cut:])
			if again := sealed(t, v, madeKey(8), 1, 2, "text", nil, known[:cut], known[cut:cut], known[cut:]); !bytes.Equal(again, b) {
				t.Errorf("%s, cut at %d: %x, not %x", what, cut, again, b)
			}
		}
	})
}

func TestWithAnotherKey(t *testing.T) { // P10.2
	each(func(what string, make func(vault.Key, int) *vault.Vault) {
		v := make(madeKey(9), 10)
		b := sealed(t, v, madeKey(10), 1, 2, "text", []byte("known"))
		for bit := range 256 {
			k := madeKey(10)
			k[bit/8] ^= 1 << (bit % 8)
			isNotOpened(t, what, v, k, 1, 2, b, []byte("known"))
		}
		isNotOpened(t, what+", noughts", v, vault.Key{}, 1, 2, b, []byte("known"))
		isNotOpened(t, what+", the master key", v, madeKey(9), 1, 2, b, []byte("known"))
		opened(t, what, v, madeKey(10), 1, 2, b, "text", []byte("known"))
	})
}

func TestWithAnotherEpochOrNumber(t *testing.T) { // P10.2
	each(func(what string, make func(vault.Key, int) *vault.Vault) {
		v := make(madeKey(11), math.MaxInt)
		for _, at := range []place{{epoch: 1, seq: 2}, {}, {epoch: 1<<32 - 1, seq: math.MaxInt - 1}, {epoch: 0x01020304, seq: 0x05060708}} {
			b := sealed(t, v, at.key, at.epoch, at.seq, "text")
			for bit := range 32 {
				isNotOpened(t, fmt.Sprintf("%s, %v, the epoch's bit %d", what, at, bit), v, at.key, at.epoch^1<<bit, at.seq, b)
			}
			for bit := range 63 {
				if other := at.seq ^ 1<<bit; other < math.MaxInt {
					isNotOpened(t, fmt.Sprintf("%s, %v, the number's bit %d", what, at, bit), v, at.key, at.epoch, other, b)
				}
			}
			opened(t, what, v, at.key, at.epoch, at.seq, b, "text")
		}
		b := sealed(t, v, madeKey(12), 5, 7, "text")
		isNotOpened(t, what+", exchanged", v, madeKey(12), 7, 5, b)
		b = sealed(t, v, madeKey(12), 0, 5, "text")
		isNotOpened(t, what+", the epoch's bytes as the number's", v, madeKey(12), 5, 0, b)
		isNotOpened(t, what+", the number's highest bytes", v, madeKey(12), 0, 5<<32, b)
	})
}

func TestWithOtherThingsKnown(t *testing.T) { // P10.2
	each(func(what string, make func(vault.Key, int) *vault.Vault) {
		v := make(madeKey(13), 10)
		for _, known := range []string{"", "k", "known besides, more than sixteen"} {
			b := sealed(t, v, madeKey(14), 1, 2, "text", []byte(known))
			for _, other := range others(known) {
				isNotOpened(t, fmt.Sprintf("%s, %q", what, other), v, madeKey(14), 1, 2, b, []byte(other))
			}
			isNotOpened(t, what+", the text, too", v, madeKey(14), 1, 2, b, []byte(known), []byte("text"))
			opened(t, what, v, madeKey(14), 1, 2, b, "text", []byte(known))
		}
	})
}

func TestOtherBytes(t *testing.T) { // P10.2
	each(func(what string, make func(vault.Key, int) *vault.Vault) {
		v := make(madeKey(15), 10)
		for _, text := range []string{"", "t", "a text that is longer than a block"} {
			b := sealed(t, v, madeKey(16), 1, 2, text, []byte("known"))
			for _, other := range others(string(b)) {
				if other != string(b) {
					isNotOpened(t, what, v, madeKey(16), 1, 2, []byte(other), []byte("known"))
				}
			}
			isNotOpened(t, what+", nothing", v, madeKey(16), 1, 2, nil, []byte("known"))
			isNotOpened(t, what+", twice", v, madeKey(16), 1, 2, append(bytes.Clone(b), b...), []byte("known"))
			opened(t, what, v, madeKey(16), 1, 2, b, text, []byte("known"))
		}
	})
}

func TestOpenedByAnotherVault(t *testing.T) { // P10.2: a key is enough, whatever the master key and the limit
	w := ideal.New()
	for _, pair := range [][2]*vault.Vault{
		{vault.Real(madeKey(17), 10), vault.Real(madeKey(17), 10)},
		{vault.Real(madeKey(17), 10), vault.Real(madeKey(18), 100)},
		{vault.Ideal(w, madeKey(17), 10), vault.Ideal(w, madeKey(17), 10)},
		{vault.Ideal(w, madeKey(17), 10), vault.Ideal(w, madeKey(18), 100)},
	} {
		b := sealed(t, pair[0], madeKey(19), 1, 9, "text", []byte("known"))
		opened(t, "another vault", pair[1], madeKey(19), 1, 9, b, "text", []byte("known"))
		back := sealed(t, pair[1], madeKey(19), 1, 8, "back", []byte("known"))
		opened(t, "the other way round", pair[0], madeKey(19), 1, 8, back, "back", []byte("known"))
	}
}

func TestRealAndIdealKnowNothingOfOneAnother(t *testing.T) { // P10.2
	r, i := vault.Real(madeKey(20), 10), vault.Ideal(ideal.New(), madeKey(20), 10)
	ofReal, ofIdeal := sealed(t, r, madeKey(21), 1, 2, "text"), sealed(t, i, madeKey(21), 1, 2, "text")
	isNotOpened(t, "a real seal", i, madeKey(21), 1, 2, ofReal)
	isNotOpened(t, "an ideal seal", r, madeKey(21), 1, 2, ofIdeal)
	isNotOpened(t, "of another world", vault.Ideal(ideal.New(), madeKey(20), 10), madeKey(21), 1, 2, ofIdeal)
}

func TestFullTexts(t *testing.T) { // P10.2
	each(func(what string, make func(vault.Key, int) *vault.Vault) {
		v := make(madeKey(22), 10)
		text, known := strings.Repeat("text", api.MaxHash/4), bytes.Repeat([]byte("k"), api.MaxHash)
		b := sealed(t, v, madeKey(23), 1, 2, text, known)
		opened(t, what, v, madeKey(23), 1, 2, b, text, known[:7], known[7:])
		isNotOpened(t, what+", a byte fewer", v, madeKey(23), 1, 2, b[:len(b)-1], known)
		isNotOpened(t, what+", a byte fewer known", v, madeKey(23), 1, 2, b, known[1:])
	})
}
