package ghash_test

import (
	"bytes"
	"fmt"
	"testing"

	"coffret/aes"
	"coffret/ghash"
)

// roomy: b, with spare room of other bytes behind it; and all of that.
func roomy(b []byte) ([]byte, []byte) {
	all := append(bytes.Clone(b), "SPARE ROOM, AS MUCH AS A BLOCK HAS, AND MORE"...)
	return all[:len(b)], all
}

// spoil writes over all of b.
func spoil(b []byte) {
	for i := range b {
		b[i] = '#'
	}
}

// lengths: within a block, whole blocks, and what ends behind one.
var lengths = []int{0, 1, 7, 8, 15, 16, 17, 31, 32, 33, 100}

func TestBytesAreNotChanged(t *testing.T) { // P7.3
	var none *ghash.Sum
	for _, n := range lengths {
		aad, allAad := roomy(made(1, n))
		text, allText := roomy(made(2, n+3))
		wantAad, wantText := bytes.Clone(allAad), bytes.Clone(allText)
		ghash.Of(madeBlock(3), aad, text)
		s := ghash.New(madeBlock(3))
		s.Write(aad)
		s.Write(text)
		s.Value()
		none.Write(aad)
		none.Write(text)
		if !bytes.Equal(allAad, wantAad) || !bytes.Equal(allText, wantText) {
			t.Errorf("%d bytes: %x, %x", n, allAad, allText)
		}
	}
}

func TestBytesAreNotKept(t *testing.T) { // P7.3
	h := madeBlock(4)
	for _, n := range lengths {
		want := wantedTaken(h, aes.Block{}, made(5, n))
		b, all := roomy(made(5, n))
		s := ghash.New(h)
		s.Write(b)
		spoil(all)
		what := fmt.Sprintf("%d bytes", n)
		stands(t, what, s, want)
		next := made(6, 20)
		s.Write(next)
		spoil(next)
		stands(t, what+", and 20 more", s, wantedTaken(h, want, made(6, 20)))
	}
}

func TestSpareRoomIsNotTakenIn(t *testing.T) { // P7.3
	h := madeBlock(7)
	for _, n := range lengths {
		b, _ := roomy(made(8, n))
		s := ghash.New(h)
		s.Write(b)
		stands(t, fmt.Sprintf("%d bytes", n), s, wantedTaken(h, aes.Block{}, made(8, n)))
		if got, want := ghash.Of(h, b, b), wantedOf(h, made(8, n), made(8, n)); got != want {
			t.Errorf("%d bytes, twice: %x, not %x", n, got, want)
		}
	}
}

func TestBlocksAreNeitherChangedNorKept(t *testing.T) { // P7.3
	h, a, b := madeBlock(9), madeBlock(10), madeBlock(11)
	s := ghash.New(h)
	product := ghash.Times(a, b)
	if h != madeBlock(9) || a != madeBlock(10) || b != madeBlock(11) {
		t.Errorf("%x, %x, %x", h, a, b)
	}
	spoil(h[:])
	spoil(a[:])
	spoil(b[:])
	if product != wantedTimes(madeBlock(10), madeBlock(11)) {
		t.Errorf("the product became %x", product)
	}
	s.Write(made(12, 30))
	stands(t, "the element written over", s, wantedTaken(madeBlock(9), aes.Block{}, made(12, 30)))
}

func TestAnswerIsTheAskersOwn(t *testing.T) { // P7.3
	h, b := madeBlock(13), made(14, 30)
	s := ghash.New(h)
	s.Write(b)
	want := wantedTaken(h, aes.Block{}, b)
	for range 3 {
		value := s.Value()
		spoil(value[:])
		stands(t, "behind writing on an answer", s, want)
	}
}

func TestOneListTwice(t *testing.T) { // P7.3: what is told and the text may be the same bytes
	h, b := madeBlock(15), made(16, 37)
	if got, want := ghash.Of(h, b, b), wantedOf(h, bytes.Clone(b), bytes.Clone(b)); got != want {
		t.Errorf("%x, not %x", got, want)
	}
	if got, want := ghash.Of(h, b, b[10:20]), wantedOf(h, bytes.Clone(b), bytes.Clone(b[10:20])); got != want {
		t.Errorf("a piece of it: %x, not %x", got, want)
	}
}
