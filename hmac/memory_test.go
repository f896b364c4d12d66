package hmac_test

import (
	"bytes"
	"fmt"
	"testing"

	mac "coffret/hmac"
)

// roomy: b, with spare room of other bytes behind it; and all of that.
func roomy(b []byte) ([]byte, []byte) {
	all := append(bytes.Clone(b), "SPARE ROOM"...)
	return all[:len(b)], all
}

// spoil writes over all of b, spare room included.
func spoil(b []byte) {
	b = b[:cap(b)]
	for i := range b {
		b[i] = '#'
	}
}

// lengths: less than a key or a block may have, just that, and more.
var lengths = []int{0, 1, 20, 55, 56, 63, 64, 65, 127, 128, 129, 300}

func TestKeyIsNotChanged(t *testing.T) { // P3.3
	for _, n := range lengths {
		key, all := roomy(made(int64(n), n))
		want := bytes.Clone(all)
		m := mac.New(key)
		m.Write([]byte("abc"))
		m.Sum()
		mac.Of(key, []byte("abc"))
		if !bytes.Equal(all, want) {
			t.Errorf("a key of %d bytes was changed", n)
		}
	}
}

func TestKeyIsNotKept(t *testing.T) { // P3.3
	for _, n := range lengths {
		want := made(int64(n), n)
		key, all := roomy(want)
		m := mac.New(key)
		spoil(all)
		holds(t, fmt.Sprintf("a key of %d bytes", n), m, want, nil)
		m.Write([]byte("abc"))
		clear(all)
		holds(t, fmt.Sprintf("a key of %d bytes, and a text", n), m, want, []byte("abc"))
	}
}

func TestPiecesAreNotChanged(t *testing.T) { // P3.3
	for _, n := range lengths {
		first, allFirst := roomy(made(1, n))
		second, allSecond := roomy(made(2, 70))
		wantFirst, wantSecond := bytes.Clone(allFirst), bytes.Clone(allSecond)
		mac.Of([]byte("k"), first, second)
		mac.Of(first, second, first)
		m := mac.New([]byte("k"))
		m.Write(first, second)
		m.Sum()
		m.Write(first)
		m.Sum()
		if !bytes.Equal(allFirst, wantFirst) || !bytes.Equal(allSecond, wantSecond) {
			t.Errorf("%d bytes: a piece was changed", n)
		}
	}
}

func TestPiecesAreNotKept(t *testing.T) { // P3.3
	key := []byte("Jefe")
	for _, n := range lengths {
		for _, ahead := range []int{0, 1, 63} {
			b := made(3, ahead+n+1)
			m := mac.New(key)
			m.Write(b[:ahead])
			piece, all := roomy(b[ahead : ahead+n])
			m.Write(piece)
			spoil(all)
			what := fmt.Sprintf("%d bytes behind %d", n, ahead)
			holds(t, what, m, key, b[:ahead+n])
			clear(all)
			m.Write(b[ahead+n:])
			holds(t, what+", and one more", m, key, b)
		}
	}
}

func TestListOfPiecesIsNeitherChangedNorKept(t *testing.T) { // P3.3
	key, spare := []byte("Jefe"), []byte("spare")
	room := [][]byte{[]byte("ab"), []byte("cd"), spare}
	m := mac.New(key)
	m.Write(room[:2]...)
	mac.Of(key, room[:2]...)
	if string(room[0]) != "ab" || string(room[1]) != "cd" || &room[2][0] != &spare[0] {
		t.Errorf("the list was changed: %q", room)
	}
	room[0], room[1] = []byte("xx"), nil
	m.Write([]byte("e"))
	holds(t, "the list was kept", m, key, []byte("abcde"))
}

func TestSameChangesNothing(t *testing.T) { // P3.3
	for _, n := range lengths {
		a, allA := roomy(made(1, n))
		b, allB := roomy(made(2, 64))
		wantA, wantB := bytes.Clone(allA), bytes.Clone(allB)
		mac.Same(a, b)
		mac.Same(b, a)
		mac.Same(a, a)
		if !bytes.Equal(allA, wantA) || !bytes.Equal(allB, wantB) {
			t.Errorf("%d bytes: a tag was changed", n)
		}
	}
}

func TestKeyedDigestIsTheAskersOwn(t *testing.T) { // P3.3
	key := []byte("Jefe")
	m := mac.New(key)
	m.Write([]byte("abc"))
	d := m.Sum()
	spoil(d[:])
	holds(t, "behind writing on a keyed digest", m, key, []byte("abc"))
}
