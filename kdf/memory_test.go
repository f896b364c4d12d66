package kdf_test

import (
	"bytes"
	"fmt"
	"testing"

	"coffret/api"
	"coffret/kdf"
)

// roomy: b, with spare room of other bytes behind it; and all of that.
func roomy(b []byte) ([]byte, []byte) {
	all := append(bytes.Clone(b), "SPARE ROOM, MORE THAN ONE BLOCK HAS OF BYTES"...)
	return all[:len(b)], all
}

// spoil writes over all of b, spare room included.
func spoil(b []byte) {
	b = b[:cap(b)]
	for i := range b {
		b[i] = '#'
	}
}

// lengths: less than a key or a block may have, just that, and more.
var lengths = []int{0, 1, 31, 32, 33, 63, 64, 65, 100}

// counts: of bytes that are asked: errors, less than a block, whole blocks, and more.
var counts = []int{-1, 0, 1, 31, 32, 33, 64, 100, 8160, 8161}

func TestWhatIsHandedInIsNotChanged(t *testing.T) { // P4.3
	for _, length := range lengths {
		for _, n := range counts {
			var handed, whole, want [][]byte
			for i := range 4 {
				b, all := roomy(made(int64(i), length))
				handed, whole, want = append(handed, b), append(whole, all), append(want, bytes.Clone(all))
			}
			salt, key, one, two := handed[0], handed[1], handed[2], handed[3]
			kdf.Extract(salt, key)
			kdf.Expand(key, n, one, two)
			kdf.Derive(salt, key, n, one, two)
			for i := range whole {
				if !bytes.Equal(whole[i], want[i]) {
					t.Errorf("%d bytes for %d: list %d was changed", length, n, i)
				}
			}
		}
	}
}

func TestListOfPiecesIsNeitherChangedNorKept(t *testing.T) { // P4.3
	spare := []byte("spare")
	for _, n := range counts {
		room := [][]byte{[]byte("ab"), []byte("cd"), spare, spare, spare}
		list := room[:2]
		kdf.Expand([]byte("key"), n, list...)
		kdf.Derive(nil, []byte("key"), n, list...)
		if string(room[0]) != "ab" || string(room[1]) != "cd" {
			t.Errorf("%d bytes: the list was changed: %q", n, list)
		}
		for _, b := range room[2:] {
			if len(b) != len(spare) || &b[0] != &spare[0] {
				t.Errorf("%d bytes: the list's spare room was changed: %q", n, room)
			}
		}
		room[0], room[1] = []byte("xx"), nil
		expands(t, "behind another list", []byte("key"), 100, []byte("abcd"))
	}
	if string(spare) != "spare" {
		t.Errorf("%q", spare)
	}
}

func TestWhatIsHandedInIsNotKept(t *testing.T) { // P4.3
	purpose := []byte("purpose")
	for _, length := range lengths {
		for _, n := range []int{1, 32, 33, 100} {
			what := fmt.Sprintf("%d bytes for %d", length, n)
			want := made(int64(length), length)
			b, all := roomy(want)
			extracted := kdf.Extract(b, b)
			expanded, e := kdf.Expand(b, n, b)
			derived, f := kdf.Derive(b, b, n, b)
			spoil(all)
			if !bytes.Equal(extracted[:], wantedKey(want, want)) {
				t.Errorf("%s: Extract %x", what, extracted)
			}
			answers(t, what+": Expand", wanted(want, n, want), expanded, e)
			answers(t, what+": Derive", wanted(wantedKey(want, want), n, want), derived, f)
			expands(t, what+": other bytes in the same place", b, n, purpose)
			derives(t, what+": other bytes in the same place", b, b, n, purpose)
		}
	}
}

func TestAnswersAreNewMemory(t *testing.T) { // P4.3
	key, purpose := []byte("key"), []byte("purpose")
	for name, call := range map[string]func(n int) ([]byte, api.Errno){
		"Expand": func(n int) ([]byte, api.Errno) { return kdf.Expand(key, n, purpose) },
		"Derive": func(n int) ([]byte, api.Errno) { return kdf.Derive(key, key, n, purpose) },
	} {
		for _, n := range []int{0, 1, 31, 32, 33, 64, 100, 8160} {
			what := fmt.Sprintf("%s of %d", name, n)
			first, _ := call(n)
			second, _ := call(n)
			want := bytes.Clone(first)
			spoil(first)
			answers(t, what+": an answer given earlier", want, second, api.OK)
			third, e := call(n)
			answers(t, what+": a later answer", want, third, e)
			spoil(second)
			answers(t, what+": a later answer, behind writing on one given earlier", want, third, e)
			if string(key) != "key" || string(purpose) != "purpose" {
				t.Fatalf("%s: shares memory with what was handed in: %q, %q", what, key, purpose)
			}
		}
	}
}

func TestAnswerHandedInAgain(t *testing.T) { // P4.3
	b, _ := kdf.Expand([]byte("key"), 100)
	want := bytes.Clone(b)
	for range 3 {
		expands(t, "an answer as a key and a purpose", b, 100, b)
		derives(t, "an answer as a salt, a secret and a purpose", b, b, 100, b)
		if !bytes.Equal(b, want) {
			t.Fatal("the answer was changed when it was handed in")
		}
	}
}

func TestPiecesThatLieInOneList(t *testing.T) { // P4.3
	all := made(1, 120)
	want := bytes.Clone(all)
	key, one, two := all[:40], all[20:60], all[30:31]
	cutTo(t, "pieces that share", key, 100, append(bytes.Clone(one), two...), one, two)
	derives(t, "a salt and a secret that share", all[:70], all[50:], 100, all[60:80])
	if !bytes.Equal(all, want) {
		t.Error("the list was changed")
	}
}
