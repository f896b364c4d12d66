package vault_test

import (
	"bytes"
	"crypto/md5"
	"encoding/hex"
	"fmt"
	"runtime"
	"strings"
	"testing"

	"coffret/api"
	"coffret/vault"
)

// counts: Clashes answers so many, again and again.
func counts(t *testing.T, what string, v *vault.Vault, want int) {
	t.Helper()
	for range 2 {
		if got := v.Clashes(); got != want {
			t.Errorf("%s: %d clashes, not %d", what, got, want)
		}
	}
}

func TestNoClashes(t *testing.T) { // P10.1
	each(func(what string, make func(vault.Key, int) *vault.Vault) {
		v := make(madeKey(1), 10)
		counts(t, what+", new", v, 0)
		for range 3 {
			sealed(t, v, madeKey(2), 1, 2, "text")
			counts(t, what+", the same again", v, 0)
		}
		for bit := range 256 {
			k := madeKey(2)
			k[bit/8] ^= 1 << (bit % 8)
			sealed(t, v, k, 1, 2, "another")
			counts(t, what+", another key", v, 0)
		}
		sealed(t, v, vault.Key{}, 1, 2, "another")
		for bit := 1; bit < 32; bit++ {
			sealed(t, v, madeKey(2), 1^1<<bit, 2, "another")
			counts(t, what+", another epoch", v, 0)
		}
		for _, seq := range []int{0, 1, 3, 9} {
			sealed(t, v, madeKey(2), 1, seq, "another")
			counts(t, what+", another number", v, 0)
		}
		sealed(t, v, madeKey(2), 2, 1, "exchanged")
		counts(t, what+", epoch and number exchanged", v, 0)
		sealed(t, v, madeKey(2), 1, 2, "text")
		counts(t, what+", the first one", v, 0)
	})
}

func TestAnotherTextClashes(t *testing.T) { // P10.1: each one but the very same
	each(func(what string, make func(vault.Key, int) *vault.Vault) {
		for _, text := range []string{"", "\x00", "t", "text", strings.Repeat("x", 100)} {
			for _, other := range append(others(text), "", "\x00", "something else") {
				v := make(madeKey(3), 10)
				sealed(t, v, madeKey(4), 1, 2, text)
				sealed(t, v, madeKey(4), 1, 2, other)
				want := 1
				if other == text {
					want = 0
				}
				counts(t, fmt.Sprintf("%s, %q and %q", what, text, other), v, want)
			}
		}
	})
}

func TestTheLastTextAhead(t *testing.T) { // P10.1: not the first one, and not any
	each(func(what string, make func(vault.Key, int) *vault.Vault) {
		v := make(madeKey(5), 10)
		want := 0
		for i, text := range strings.Split("x x y y y x y x x z z y x", " ") {
			if i > 0 && text != strings.Split("x x y y y x y x x z z y x", " ")[i-1] {
				want++
			}
			sealed(t, v, madeKey(6), 1, 2, text)
			counts(t, fmt.Sprintf("%s, %d: %s", what, i, text), v, want)
			sealed(t, v, madeKey(6), 1, 3, "between")
			sealed(t, v, madeKey(7), 1, 2, "between")
		}
		counts(t, what, v, 7)
	})
}

func TestOfEachPlaceTheLast(t *testing.T) { // P10.1
	each(func(what string, make func(vault.Key, int) *vault.Vault) {
		v := make(madeKey(8), 5)
		want := 0
		for round := range 4 {
			for epoch := range 3 {
				for seq := range 5 {
					sealed(t, v, madeKey(9), epoch, seq, fmt.Sprint(round*(seq%3))) // 0 again and again, or another one each time
					if round > 0 && seq%3 > 0 {
						want++
					}
					counts(t, fmt.Sprintf("%s, round %d, epoch %d, number %d", what, round, epoch, seq), v, want)
				}
			}
		}
	})
}

func TestWhatIsKnownBesidesIsNoText(t *testing.T) { // P10.1: a clash is one of texts
	each(func(what string, make func(vault.Key, int) *vault.Vault) {
		v := make(madeKey(10), 10)
		sealed(t, v, madeKey(11), 1, 2, "text", []byte("known"))
		sealed(t, v, madeKey(11), 1, 2, "text", []byte("another"))
		sealed(t, v, madeKey(11), 1, 2, "text")
		counts(t, what+", other things known", v, 0)
		sealed(t, v, madeKey(11), 1, 2, "another", []byte("known"))
		counts(t, what+", another text", v, 1)
	})
}

func TestOnlyWhatWasSealedClashes(t *testing.T) { // P10.1: what was refused, opened, or made otherwise, doesn't
	each(func(what string, make func(vault.Key, int) *vault.Vault) {
		v := make(madeKey(12), 10)
		b := sealed(t, v, madeKey(13), 1, 2, "text")
		tooLong := strings.Repeat("x", api.MaxHash+1)
		for range 3 {
			isNotSealed(t, what, api.ErrLong, v, madeKey(13), 1, 2, tooLong)
			isNotSealed(t, what, api.ErrLong, v, madeKey(13), 1, 2, "another", []byte(tooLong))
			isNotSealed(t, what, api.ErrSpent, v, madeKey(13), 1, 10, "another")
			isNotSealed(t, what, api.ErrSpent, v, madeKey(13), 1<<32+1, 2, "another")
			isNotSealed(t, what, api.ErrArg, v, madeKey(13), -1, 2, "another")
			v.Open(madeKey(13), 1, 2, b)
			v.Open(madeKey(13), 1, 2, []byte("another"))
			v.Mac(madeKey(13), []byte("another"))
			v.Hash([]byte("another"))
			v.Key("another", 1, 2)
			counts(t, what+", nothing was sealed", v, 0)
			sealed(t, v, madeKey(13), 1, 2, "text")
			counts(t, what+", the same again", v, 0)
		}
		isNotSealed(t, what, api.ErrLong, v, madeKey(13), 1, 3, tooLong)
		sealed(t, v, madeKey(13), 1, 3, "text")
		counts(t, what+", the first one there that was sealed", v, 0)
	})
}

func TestClashesOfFullTexts(t *testing.T) { // P10.1
	each(func(what string, make func(vault.Key, int) *vault.Vault) {
		v := make(madeKey(14), 10)
		full := strings.Repeat("x", api.MaxHash-1)
		for want, text := range []string{full + "x", full + "y", "y" + full, full} {
			sealed(t, v, madeKey(15), 1, 2, text)
			sealed(t, v, madeKey(15), 1, 2, text)
			counts(t, what, v, want)
		}
	})
}

func TestClashingTextsAreSealed(t *testing.T) { // P10.2: and each is opened as itself
	each(func(what string, make func(vault.Key, int) *vault.Vault) {
		v := make(madeKey(16), 10)
		yes, no := sealed(t, v, madeKey(17), 1, 2, "yes"), sealed(t, v, madeKey(17), 1, 2, "no!")
		opened(t, what, v, madeKey(17), 1, 2, yes, "yes")
		opened(t, what, v, madeKey(17), 1, 2, no, "no!")
		counts(t, what, v, 1)
	})
}

func TestTextsOfOneWeakerDigestClash(t *testing.T) { // P10.1: of a pair with one MD5, as none with one SHA-256 is known
	const one = "d131dd02c5e6eec4693d9a0698aff95c2fcab58712467eab4004583eb8fb7f8955ad340609f4b30283e488832571415a" +
		"085125e8f7cdc99fd91dbdf280373c5bd8823e3156348f5bae6dacd436c919c6dd53e2b487da03fd02396306d248cda0" +
		"e99f33420f577ee8ce54b67080a80d1ec69821bcb6a8839396f9652b6ff72a70"
	x, err := hex.DecodeString(one)
	if err != nil {
		t.Fatal(err)
	}
	y := bytes.Clone(x)
	for _, at := range []int{19, 45, 59, 83, 109, 123} { // the bytes in which the pair differs, each in its highest bit
		y[at] ^= 0x80
	}
	if md5.Sum(x) != md5.Sum(y) || bytes.Equal(x, y) {
		t.Fatalf("%x and %x are no such pair", md5.Sum(x), md5.Sum(y))
	}
	each(func(what string, make func(vault.Key, int) *vault.Vault) {
		v := make(madeKey(18), 10)
		for i, text := range [][]byte{x, y, y, x} {
			sealed(t, v, madeKey(19), 1, 2, string(text))
			counts(t, what, v, []int{0, 1, 1, 2}[i])
		}
	})
}

// grown: how many bytes more are in use behind a call than ahead of it, of what a vault keeps.
func grown(v *vault.Vault, call func()) int {
	inUse := func() int {
		var m runtime.MemStats
		runtime.GC()
		runtime.GC()
		runtime.ReadMemStats(&m)
		return int(m.HeapAlloc)
	}
	ahead := inUse()
	call()
	behind := inUse()
	runtime.KeepAlive(v)
	return behind - ahead
}

// The next two are of real vaults alone, since an ideal one's world keeps all texts by itself.

func TestAllBytesOfATextCount(t *testing.T) { // P10.1: made-up bytes can't be told from all others by anything shorter than they are, so room for them must be kept
	const count, length = 16, api.MaxHash / 4
	v := vault.Real(madeKey(20), count)
	room := grown(v, func() {
		for seq := range count {
			sealed(t, v, madeKey(21), 1, seq, string(made(int64(seq), length)))
		}
	})
	if least := count * length * 7 / 8; room < least {
		t.Errorf("of %d texts of %d bytes only %d bytes are kept, not %d: texts of one digest would be taken for the same", count, length, room, least)
	}
	for seq := range count {
		sealed(t, v, madeKey(21), 1, seq, string(made(int64(seq), length)))
		counts(t, "the same again", v, 0)
	}
}

func TestOfOnePlaceTheLastTextAloneIsKept(t *testing.T) { // P10.1: no more than Clashes needs
	const count, length = 16, api.MaxHash / 4
	v := vault.Real(madeKey(22), 1)
	room := grown(v, func() {
		for i := range count {
			sealed(t, v, madeKey(23), 1, 0, string(made(int64(i/2), length))) // each one twice
		}
	})
	if most := 2 * length; room > most {
		t.Errorf("%d bytes are kept, not %d at most", room, most)
	}
	counts(t, "one place", v, count/2-1)
}
