package vault_test

import (
	"bytes"
	"slices"
	"testing"

	"coffret/api"
	"coffret/vault"
)

// spare is what stands behind a list that is handed in.
const spare = "SPARE ROOM, AS MUCH AS A SEAL AND A DIGEST HAVE MORE THAN A TEXT"

// roomy: a text's bytes, with spare room of other bytes behind them.
func roomy(s string) []byte {
	return []byte(s + spare)[:len(s)]
}

// isWhole: bytes, and the spare room behind them, are as they were.
func isWhole(t *testing.T, what string, b []byte, s string) {
	t.Helper()
	if all := string(b[:len(s)+len(spare)]); all != s+spare {
		t.Errorf("%s: %q, not %q", what, all, s+spare)
	}
}

// spoil writes over all of b, spare room included.
func spoil(b []byte) {
	b = b[:cap(b)]
	for i := range b {
		b[i] = '#'
	}
}

func TestWhatIsHandedInIsNotChanged(t *testing.T) { // P10.4
	each(func(what string, make func(vault.Key, int) *vault.Vault) {
		for _, s := range someTexts {
			v := make(madeKey(1), 10)
			seal := string(sealed(t, v, madeKey(2), 1, 2, s, []byte(s+"1"), []byte(s+"2")))
			text, one, two, b := roomy(s), roomy(s+"1"), roomy(s+"2"), roomy(seal)
			list := [][]byte{one, two, []byte("more"), []byte("yet more")}
			numbers := append(slices.Clone([]int{1, 2, 3}), 4, 5)[:3]
			for range 2 {
				v.Seal(madeKey(2), 1, 2, text, list[:2]...)
				opened(t, what, v, madeKey(2), 1, 2, b, s, list[:2]...)
				v.Open(madeKey(2), 1, 3, b, list[:2]...)
				v.Open(madeKey(2), 1, 2, b[:9], list[:2]...)
				v.Seal(madeKey(2), 1, 10, text, list[:2]...)
				v.Seal(madeKey(2), -1, 1, text, list[:2]...)
				v.Mac(madeKey(2), list[:2]...)
				v.Hash(list[:2]...)
				v.Key(s, numbers...)
			}
			isWhole(t, what+", the text", text, s)
			isWhole(t, what+", a piece", list[0], s+"1")
			isWhole(t, what+", another piece", list[1], s+"2")
			isWhole(t, what+", the seal", b, seal)
			if &list[0][0] != &one[0] || &list[1][0] != &two[0] || string(list[2]) != "more" || string(list[3]) != "yet more" {
				t.Errorf("%s: the list became %q", what, list)
			}
			if !slices.Equal(numbers[:5], []int{1, 2, 3, 4, 5}) {
				t.Errorf("%s: the numbers became %d", what, numbers[:5])
			}
		}
	})
}

func TestWhatIsRefusedIsNotChanged(t *testing.T) { // P10.4
	long := bytes.Repeat([]byte("l"), api.MaxHash+17)
	each(func(what string, make func(vault.Key, int) *vault.Vault) {
		for _, v := range []*vault.Vault{nil, make(madeKey(3), 10), vault.Ideal(nil, madeKey(3), 10)} {
			b := roomy("abc")
			v.Seal(madeKey(4), 1, 2, long, b)
			v.Seal(madeKey(4), 1, 2, b, b, long)
			v.Open(madeKey(4), 1, 2, b, b)
			v.Open(madeKey(4), 1, 2, long, long)
			isWhole(t, what, b, "abc")
		}
	})
	if !bytes.Equal(long, bytes.Repeat([]byte("l"), api.MaxHash+17)) {
		t.Errorf("the long one was changed")
	}
}

func TestKeysAreNotChanged(t *testing.T) { // P10.4
	each(func(what string, make func(vault.Key, int) *vault.Vault) {
		master, k := madeKey(5), madeKey(6)
		v := make(master, 10)
		p := v.Key("p")
		b := sealed(t, v, k, 1, 2, "text")
		m := v.Mac(k, []byte("a"))
		if master != madeKey(5) || k != madeKey(6) {
			t.Errorf("%s: the keys became %x, %x", what, master, k)
		}
		clear(master[:])
		clear(k[:])
		if again := v.Key("p"); again != p {
			t.Errorf("%s: %x, not %x", what, again, p)
		}
		if again := v.Mac(madeKey(6), []byte("a")); again != m {
			t.Errorf("%s: %x, not %x", what, again, m)
		}
		opened(t, what, v, madeKey(6), 1, 2, b, "text")
	})
}

func TestWhatIsHandedInIsNotKept(t *testing.T) { // P10.4
	each(func(what string, make func(vault.Key, int) *vault.Vault) {
		for _, s := range someTexts {
			v := make(madeKey(7), 10)
			text, known := roomy(s), roomy(s+"known")
			list := [][]byte{known}
			b, _ := v.Seal(madeKey(8), 1, 2, text, list...)
			seal := string(b)
			spoil(text)
			spoil(known)
			list[0] = nil
			if string(b) != seal {
				t.Errorf("%s, %q: the seal became %x, not %x", what, s, b, seal)
			}
			spoil(b)
			opened(t, what, v, madeKey(8), 1, 2, []byte(seal), s, []byte(s+"known"))
			if again := sealed(t, v, madeKey(8), 1, 2, s, []byte(s+"known")); string(again) != seal {
				t.Errorf("%s, %q: sealed again as %x, not %x", what, s, again, seal)
			}
			if v.Clashes() != 0 {
				t.Errorf("%s, %q: what is written over a text clashes", what, s)
			}
		}
	})
}

func TestATextWrittenOverClashes(t *testing.T) { // P10.4: what stood there at the call counts
	each(func(what string, make func(vault.Key, int) *vault.Vault) {
		v := make(madeKey(9), 10)
		text := []byte("yes")
		v.Seal(madeKey(10), 1, 2, text)
		copy(text, "no!")
		if v.Clashes() != 0 {
			t.Errorf("%s: %d clashes of one seal", what, v.Clashes())
		}
		v.Seal(madeKey(10), 1, 2, text)
		if v.Clashes() != 1 {
			t.Errorf("%s: %d clashes, not 1", what, v.Clashes())
		}
	})
}

func TestAnswersAreNewMemory(t *testing.T) { // P10.4
	each(func(what string, make func(vault.Key, int) *vault.Vault) {
		for _, s := range someTexts {
			v := make(madeKey(11), 10)
			text := roomy(s)
			first, _ := v.Seal(madeKey(12), 1, 2, text)
			second, _ := v.Seal(madeKey(12), 1, 2, text)
			seal := string(second)
			spoil(first)
			if string(second) != seal {
				t.Errorf("%s, %q: two answers share memory", what, s)
			}
			given := roomy(seal)
			one, _ := v.Open(madeKey(12), 1, 2, given)
			two, _ := v.Open(madeKey(12), 1, 2, given)
			spoil(one)
			if string(two) != s {
				t.Errorf("%s: two answers share memory: %q, not %q", what, two, s)
			}
			spoil(two)
			opened(t, what, v, madeKey(12), 1, 2, given, s)
			isWhole(t, what+", the text", text, s)
			isWhole(t, what+", the seal", given, seal)
		}
	})
}
