package vault_test

import (
	"bytes"
	"math"
	"strings"
	"testing"

	"coffret/api"
	"coffret/ideal"
	"coffret/vault"
)

// isNotSealed: Seal answers an error, and nothing besides.
func isNotSealed(t *testing.T, what string, want api.Errno, v *vault.Vault, k vault.Key, epoch, seq int, text string, known ...[]byte) {
	t.Helper()
	if b, e := v.Seal(k, epoch, seq, []byte(text), known...); b != nil || e != want {
		t.Errorf("%s: epoch %d, number %d: sealed as %s, %d, not %d", what, epoch, seq, short(b), e, want)
	}
}

// tooMuch: pieces that have, all together, more bytes than are sealed at once.
func tooMuch() map[string][][]byte {
	const most = api.MaxHash
	half := make([]byte, most/2)
	return map[string][][]byte{
		"one piece":           {make([]byte, most+1)},
		"a full one and more": {make([]byte, most), {1}},
		"a byte ahead":        {{1}, nil, make([]byte, most)},
		"two halves and more": {half, half, {}, {1}},
		"one piece often":     {half, half, half},
	}
}

func TestLimits(t *testing.T) { // P10.1
	each(func(what string, make func(vault.Key, int) *vault.Vault) {
		for _, limit := range edges {
			v := make(madeKey(1), limit)
			if got, want := v.Limit(), max(limit, 0); got != want {
				t.Errorf("%s: Limit %d, not %d", what, got, want)
			}
			v.Seal(madeKey(2), 1, 0, nil)
			if got, want := v.Limit(), max(limit, 0); got != want {
				t.Errorf("%s: Limit %d, not %d, behind a seal", what, got, want)
			}
		}
	})
}

func TestNilVault(t *testing.T) { // P10.1
	var v *vault.Vault
	if v.Limit() != 0 || v.Clashes() != 0 {
		t.Errorf("Limit %d, Clashes %d", v.Limit(), v.Clashes())
	}
	if v.Key("", 1) != (vault.Key{}) || v.Key("queue") != (vault.Key{}) {
		t.Errorf("a key that isn't noughts")
	}
	noughts := [32]byte{}
	if v.Mac(madeKey(3)) != noughts || v.Mac(madeKey(3), []byte("a")) != noughts || v.Hash() != noughts || v.Hash([]byte("a")) != noughts {
		t.Errorf("a tag, or a digest, that isn't noughts")
	}
	long := make([]byte, api.MaxHash+17)
	for _, epoch := range edges {
		for _, seq := range edges {
			isNotSealed(t, "no vault", api.ErrNil, v, madeKey(3), epoch, seq, "text", []byte("known"))
			isRefused(t, "no vault", api.ErrNil, v, madeKey(3), epoch, seq, []byte("text"), []byte("known"))
		}
		isNotSealed(t, "no vault", api.ErrNil, v, madeKey(3), epoch, 0, string(long), long)
		isRefused(t, "no vault", api.ErrNil, v, madeKey(3), epoch, 0, long, long)
	}
	if v.Clashes() != 0 {
		t.Errorf("Clashes %d", v.Clashes())
	}
}

func TestNilWorld(t *testing.T) { // P10.1: layer 9's answers, but what a vault refuses by itself
	v := vault.Ideal(nil, madeKey(4), 10)
	if v == nil || v.Limit() != 10 {
		t.Fatalf("Limit %d", v.Limit())
	}
	for range 2 {
		isNotSealed(t, "no world", api.ErrNil, v, madeKey(5), 1, 2, "text", []byte("known"))
		isNotSealed(t, "no world", api.ErrNil, v, madeKey(5), 1, 2, "another")
		isNotSealed(t, "no world", api.ErrNil, v, madeKey(5), 1<<32-1, 9, strings.Repeat("x", api.MaxHash+1))
		isRefused(t, "no world", api.ErrNil, v, madeKey(5), 1, 2, nil)
		isRefused(t, "no world", api.ErrNil, v, madeKey(5), 1, 2, make([]byte, 20), []byte("known"))
	}
	isNotSealed(t, "no world", api.ErrArg, v, madeKey(5), -1, 2, "text")
	isNotSealed(t, "no world", api.ErrSpent, v, madeKey(5), 1, 10, "text")
	isRefused(t, "no world", api.ErrArg, v, madeKey(5), 1, -2, nil)
	isRefused(t, "no world", api.ErrSpent, v, madeKey(5), 1<<32, 2, nil)
	noughts := [32]byte{}
	if v.Key("queue", 1) != noughts || v.Mac(madeKey(5), []byte("a")) != noughts || v.Hash([]byte("a")) != noughts || v.Hash() != noughts {
		t.Errorf("a key, a tag, or a digest, that isn't noughts")
	}
	if v.Clashes() != 0 {
		t.Errorf("Clashes %d", v.Clashes())
	}
}

func TestBelowNoughtIsSaidFirst(t *testing.T) { // P10.1
	each(func(what string, make func(vault.Key, int) *vault.Vault) {
		v := make(madeKey(6), 10)
		long := strings.Repeat("x", api.MaxHash+1)
		for _, c := range []struct{ epoch, seq int }{{-1, 0}, {0, -1}, {-1, -1}, {-1, 10}, {-1, math.MaxInt}, {1 << 32, -1}, {math.MaxInt, math.MinInt}, {math.MinInt, 0}} {
			isNotSealed(t, what, api.ErrArg, v, madeKey(7), c.epoch, c.seq, "text")
			isNotSealed(t, what, api.ErrArg, v, madeKey(7), c.epoch, c.seq, long, []byte(long))
			isRefused(t, what, api.ErrArg, v, madeKey(7), c.epoch, c.seq, nil)
			isRefused(t, what, api.ErrArg, v, madeKey(7), c.epoch, c.seq, []byte(long), []byte(long))
		}
	})
}

func TestSpent(t *testing.T) { // P10.1: said ahead of what is wrong with a text
	each(func(what string, make func(vault.Key, int) *vault.Vault) {
		v := make(madeKey(8), 10)
		long := strings.Repeat("x", api.MaxHash+1)
		for _, c := range []struct{ epoch, seq int }{{0, 10}, {0, 11}, {0, math.MaxInt}, {1 << 32, 0}, {1<<32 + 5, 9}, {1 << 62, 10}, {math.MaxInt, math.MaxInt}} {
			isNotSealed(t, what, api.ErrSpent, v, madeKey(9), c.epoch, c.seq, "text")
			isNotSealed(t, what, api.ErrSpent, v, madeKey(9), c.epoch, c.seq, long, []byte(long))
			isRefused(t, what, api.ErrSpent, v, madeKey(9), c.epoch, c.seq, nil)
			isRefused(t, what, api.ErrSpent, v, madeKey(9), c.epoch, c.seq, []byte(long), []byte(long))
		}
	})
}

func TestNothingIsSealedBelowNoLimit(t *testing.T) { // P10.1
	each(func(what string, make func(vault.Key, int) *vault.Vault) {
		for _, limit := range []int{0, -1, math.MinInt} {
			v := make(madeKey(10), limit)
			for _, seq := range []int{0, 1, math.MaxInt} {
				isNotSealed(t, what, api.ErrSpent, v, madeKey(11), 0, seq, "text")
				isRefused(t, what, api.ErrSpent, v, madeKey(11), 0, seq, []byte("text"))
			}
			isNotSealed(t, what, api.ErrArg, v, madeKey(11), 0, -1, "text")
		}
	})
}

func TestWhatWasSealedBeyondTheLimitIsNotOpened(t *testing.T) { // P10.1
	w := ideal.New()
	for _, pair := range [][2]*vault.Vault{
		{vault.Real(madeKey(12), 20), vault.Real(madeKey(12), 10)},
		{vault.Ideal(w, madeKey(12), 20), vault.Ideal(w, madeKey(12), 10)},
	} {
		b := sealed(t, pair[0], madeKey(13), 1, 10, "text")
		isRefused(t, "the limit's number", api.ErrSpent, pair[1], madeKey(13), 1, 10, b)
		opened(t, "by the greater limit", pair[0], madeKey(13), 1, 10, b, "text")
	}
}

func TestTooLong(t *testing.T) { // P10.1
	each(func(what string, make func(vault.Key, int) *vault.Vault) {
		v := make(madeKey(14), 10)
		long := strings.Repeat("x", api.MaxHash+1)
		isNotSealed(t, what, api.ErrLong, v, madeKey(15), 1, 2, long)
		isNotSealed(t, what, api.ErrLong, v, madeKey(15), 1, 2, long+long, []byte("known"))
		for how, known := range tooMuch() {
			isNotSealed(t, what+", "+how, api.ErrLong, v, madeKey(15), 1, 2, "", known...)
			isNotSealed(t, what+", "+how, api.ErrLong, v, madeKey(15), 1, 2, long, known...)
		}
	})
}

func TestTooLongIsNotOpened(t *testing.T) { // P10.1: Open knows no ErrLong
	each(func(what string, make func(vault.Key, int) *vault.Vault) {
		v := make(madeKey(16), 10)
		b := sealed(t, v, madeKey(17), 1, 2, "text")
		long := bytes.Repeat([]byte("x"), api.MaxHash+17)
		isNotOpened(t, what, v, madeKey(17), 1, 2, long)
		isNotOpened(t, what, v, madeKey(17), 1, 2, append(long, long...), []byte("known"))
		for how, known := range tooMuch() {
			isNotOpened(t, what+", "+how, v, madeKey(17), 1, 2, b, known...)
			isNotOpened(t, what+", "+how, v, madeKey(17), 1, 2, long, known...)
			isNotOpened(t, what+", "+how, v, madeKey(17), 1, 2, nil, known...)
		}
	})
	key := madeKey(18) // not even with the right tag
	text := make([]byte, api.MaxHash+1)
	v := vault.Real(madeKey(16), 10)
	isNotOpened(t, "a text", v, key, 1, 2, library(key).Seal(nil, nonceOf(1, 2), text, nil))
	isNotOpened(t, "known besides", v, key, 1, 2, library(key).Seal(nil, nonceOf(1, 2), nil, text), text)
}

func TestFewerBytesThanATag(t *testing.T) { // P10.1
	each(func(what string, make func(vault.Key, int) *vault.Vault) {
		v := make(madeKey(19), 10)
		b := sealed(t, v, madeKey(20), 1, 2, "")
		for length := range b {
			isNotOpened(t, what, v, madeKey(20), 1, 2, b[:length])
			isNotOpened(t, what, v, madeKey(20), 1, 2, bytes.Clone(b)[length+1:], []byte("known"))
		}
		isNotOpened(t, what+", nothing", v, madeKey(20), 1, 2, nil)
	})
}

func TestRefusedChangesNothing(t *testing.T) { // P10.1
	w := ideal.New()
	for _, v := range []*vault.Vault{vault.Real(madeKey(21), 10), vault.Ideal(w, madeKey(21), 10)} {
		b := sealed(t, v, madeKey(22), 1, 2, "text")
		size := w.Size()
		for range 3 {
			isNotSealed(t, "spent", api.ErrSpent, v, madeKey(22), 1, 10, "text")
			isNotSealed(t, "below 0", api.ErrArg, v, madeKey(22), 1, -1, "text")
			isNotSealed(t, "too long", api.ErrLong, v, madeKey(22), 1, 2, strings.Repeat("x", api.MaxHash+1))
			isNotOpened(t, "noughts", v, madeKey(22), 1, 2, make([]byte, 20))
			isRefused(t, "spent", api.ErrSpent, v, madeKey(22), 1, 10, b)
			if v.Limit() != 10 || v.Clashes() != 0 || w.Size() != size {
				t.Errorf("Limit %d, Clashes %d, %d things, not %d", v.Limit(), v.Clashes(), w.Size(), size)
			}
			opened(t, "behind all that", v, madeKey(22), 1, 2, b, "text")
		}
	}
}
