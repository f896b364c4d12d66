package sha_test

import (
	"bytes"
	"fmt"
	"testing"

	"coffret/sha"
)

// roomy: b, with spare room of other bytes behind it; and all of that.
func roomy(b []byte) ([]byte, []byte) {
	all := append(bytes.Clone(b), "SPARE ROOM"...)
	return all[:len(b)], all
}

// spoil writes over all of b, spare room included.
func spoil(b []byte) {
	b = b[:cap(b)]
	for i := range b {
		b[i] = '#'
	}
}

// lengths: within a block, whole blocks, and what ends behind one.
var lengths = []int{0, 1, 55, 56, 63, 64, 65, 127, 128, 129, 300}

func TestPiecesAreNotChanged(t *testing.T) { // P2.3
	for _, n := range lengths {
		first, allFirst := roomy(made(1, n))
		second, allSecond := roomy(made(2, 70))
		wantFirst, wantSecond := bytes.Clone(allFirst), bytes.Clone(allSecond)
		sha.Of(first, second)
		x := sha.New()
		x.Write(first, second)
		x.Sum()
		x.Write(first)
		x.Write(second)
		x.Sum()
		if !bytes.Equal(allFirst, wantFirst) || !bytes.Equal(allSecond, wantSecond) {
			t.Errorf("%d bytes: a piece was changed", n)
		}
	}
}

func TestPiecesAreNotKept(t *testing.T) { // P2.3
	for _, n := range lengths {
		for _, ahead := range []int{0, 1, 63} {
			b := made(3, ahead+n+1)
			x := sha.New()
			x.Write(b[:ahead])
			piece, all := roomy(b[ahead : ahead+n])
			x.Write(piece)
			spoil(all)
			what := fmt.Sprintf("%d bytes behind %d", n, ahead)
			holds(t, what, x, b[:ahead+n])
			spoil(all)
			x.Write(b[ahead+n:])
			holds(t, what+", and one more", x, b)
		}
	}
}

func TestListOfPiecesIsNeitherChangedNorKept(t *testing.T) { // P2.3
	spare := []byte("spare")
	room := [][]byte{[]byte("ab"), []byte("cd"), spare}
	list := room[:2]
	x := sha.New()
	x.Write(list...)
	sha.Of(list...)
	if string(room[0]) != "ab" || string(room[1]) != "cd" || &room[2][0] != &spare[0] {
		t.Errorf("the list was changed: %q", room)
	}
	room[0], room[1] = []byte("xx"), nil
	x.Write([]byte("e"))
	holds(t, "the list was kept", x, []byte("abcde"))
}

func TestNilHashChangesNoPiece(t *testing.T) { // P2.3
	var x *sha.Hash
	piece, all := roomy([]byte("abc"))
	x.Write(piece)
	if string(all) != "abcSPARE ROOM" {
		t.Errorf("%q", all)
	}
}

func TestDigestIsTheAskersOwn(t *testing.T) { // P2.3
	x := sha.New()
	x.Write([]byte("abc"))
	d := x.Sum()
	spoil(d[:])
	holds(t, "behind writing on a digest", x, []byte("abc"))
}
