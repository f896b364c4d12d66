package vault_test

import (
	"fmt"
	"strings"
	"testing"

	"coffret/ideal"
	"coffret/vault"
)

// somePurposes: some of them look like another one and a number, as bytes.
var somePurposes = []string{
	"", "\x00", "q", "qq", "queue", "token", "Queue", "queue ", "\x00\x00\x00", "\x01\x00\x00q", "\x05\x00\x00queue",
	"q\x07\x00\x00\x00\x00\x00\x00\x00", "\x07\x00\x00\x00\x00\x00\x00\x00", strings.Repeat("\x00", 5), strings.Repeat("\x00", 13),
	strings.Repeat("q", 255), strings.Repeat("q", 256), strings.Repeat("q", 257), strings.Repeat("q", 65536), strings.Repeat("q", 65537),
}

// someNumbers: none, one, more, in several orders.
var someNumbers = [][]int{
	nil, {0}, {0, 0}, {0, 0, 0}, {1}, {7}, {256}, {1 << 32}, {1 << 56}, {-1}, {-1 << 63}, {1<<63 - 1},
	{1, 0}, {0, 1}, {1, 2}, {2, 1}, {1, 2, 3}, {1, 3, 2}, {12, 3},
}

func TestTwoKeysAreTwo(t *testing.T) { // P10.3
	each(func(what string, make func(vault.Key, int) *vault.Vault) {
		v := make(madeKey(1), 10)
		seen := map[vault.Key]string{}
		for _, purpose := range somePurposes {
			for _, numbers := range someNumbers {
				k := v.Key(purpose, numbers...)
				told := fmt.Sprintf("%s %d", short([]byte(purpose)), numbers)
				if other, ok := seen[k]; ok {
					t.Errorf("%s: %x: of %s, and of %s", what, k, told, other)
				}
				seen[k] = told
			}
		}
		if want := len(somePurposes) * len(someNumbers); len(seen) != want {
			t.Errorf("%s: %d keys, not %d", what, len(seen), want)
		}
	})
}

func TestEachBitOfANumber(t *testing.T) { // P10.3
	each(func(what string, make func(vault.Key, int) *vault.Vault) {
		v := make(madeKey(2), 10)
		seen := map[vault.Key]bool{v.Key("queue", 0, 0): true}
		for bit := range 64 {
			for _, numbers := range [][]int{{1 << bit, 0}, {0, 1 << bit}, {1 << bit}} {
				k := v.Key("queue", numbers...)
				if seen[k] {
					t.Errorf("%s: %x of %d, twice", what, k, numbers)
				}
				seen[k] = true
			}
		}
	})
}

func TestEachBitOfAPurpose(t *testing.T) { // P10.3
	each(func(what string, make func(vault.Key, int) *vault.Vault) {
		v := make(madeKey(3), 10)
		const purpose = "a purpose of some bytes, more than those of a key"
		seen := map[vault.Key]bool{v.Key(purpose, 1): true}
		for _, other := range others(purpose) {
			seen[v.Key(other, 1)] = true
		}
		if want := len(others(purpose)) + 1; len(seen) != want {
			t.Errorf("%s: %d keys, not %d", what, len(seen), want)
		}
	})
}

func TestTheSameKeyAgain(t *testing.T) { // P10.1: a key hangs on what it is for alone
	each(func(what string, make func(vault.Key, int) *vault.Vault) {
		v := make(madeKey(4), 10)
		var first []vault.Key
		for round := range 3 {
			for i, purpose := range somePurposes {
				k := v.Key(purpose, i)
				if round == 0 {
					first = append(first, k)
				} else if k != first[i] {
					t.Errorf("%s: %x, not %x", what, k, first[i])
				}
			}
			sealed(t, v, first[0], 1, round, "between")
		}
	})
}

func TestOfAnotherMasterKey(t *testing.T) { // P10.3
	w := ideal.New()
	seen := map[vault.Key]bool{}
	for bit := -1; bit < 256; bit++ {
		master := madeKey(5)
		if bit >= 0 {
			master[bit/8] ^= 1 << (bit % 8)
		}
		seen[vault.Real(master, 10).Key("queue", 1)] = true
		seen[vault.Ideal(w, master, 10).Key("queue", 1)] = true
	}
	if len(seen) != 2*257 {
		t.Errorf("%d keys, not %d", len(seen), 2*257)
	}
}

func TestTheLimitDoesNotMatterToKeys(t *testing.T) { // P10.1
	k := vault.Real(madeKey(6), 10).Key("queue", 1)
	if other := vault.Real(madeKey(6), 99).Key("queue", 1); other != k {
		t.Errorf("%x, not %x", other, k)
	}
}
