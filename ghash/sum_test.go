package ghash_test

import (
	"bytes"
	"crypto/cipher"
	"encoding/binary"
	"fmt"
	"math/rand"
	"testing"

	"coffret/aes"
	"coffret/ghash"
)

// wantedTaken: the sum that becomes of another one when bytes are taken in, as the chapter says it.
func wantedTaken(h, value aes.Block, b []byte) aes.Block {
	whole := append(bytes.Clone(b), make([]byte, 15)...)
	for at := 0; at < len(b); at += 16 {
		value = wantedTimes(h, sum(value, aes.Block(whole[at:at+16])))
	}
	return value
}

// wantedOf: the sum of two texts, as the chapter says it.
func wantedOf(h aes.Block, aad, text []byte) aes.Block {
	var counts []byte
	counts = binary.BigEndian.AppendUint64(counts, 8*uint64(len(aad)))
	counts = binary.BigEndian.AppendUint64(counts, 8*uint64(len(text)))
	return wantedTaken(h, wantedTaken(h, wantedTaken(h, aes.Block{}, aad), text), counts)
}

// stuck is a cipher that makes its block of that of noughts, and noughts of all others: so a tag of the library's is the sum, and nothing besides.
type stuck aes.Block

func (s stuck) BlockSize() int { return len(s) }

func (s stuck) Decrypt(to, from []byte) { panic("nobody asks") }

func (s stuck) Encrypt(to, from []byte) {
	if bytes.Equal(from, make([]byte, len(s))) {
		copy(to, s[:])
	} else {
		clear(to[:len(s)])
	}
}

// libraryOf: the sum of two texts, as Go's library has it.
func libraryOf(t *testing.T, h aes.Block, aad, text []byte) aes.Block {
	t.Helper()
	c, err := cipher.NewGCM(stuck(h))
	if err != nil {
		t.Fatal(err)
	}
	return aes.Block(c.Seal(nil, make([]byte, c.NonceSize()), text, aad)[len(text):])
}

// holds the sum of two texts against the library.
func holds(t *testing.T, h aes.Block, aad, text []byte) {
	t.Helper()
	if got, want := ghash.Of(h, aad, text), libraryOf(t, h, aad, text); got != want {
		t.Errorf("%d bytes and %d under %x: %x, not %x", len(aad), len(text), h, got, want)
	}
}

// stands: a Sum has a value, also asked again.
func stands(t *testing.T, what string, s *ghash.Sum, want aes.Block) {
	t.Helper()
	for range 2 {
		if got := s.Value(); got != want {
			t.Errorf("%s: %x, not %x", what, got, want)
		}
	}
}

func TestNothingTakenIn(t *testing.T) { // P7.1
	for _, h := range edges() {
		s := ghash.New(h)
		stands(t, "new", s, aes.Block{})
		s.Write(nil)
		s.Write([]byte{})
		s.Write(made(1, 20)[:0])
		stands(t, "nothing written", s, aes.Block{})
		s.Write([]byte{1})
		want := wantedTimes(h, aes.Block{1})
		stands(t, "a byte", s, want)
		s.Write(nil)
		s.Write([]byte{})
		stands(t, "nothing written behind a byte", s, want)
	}
}

func TestTakenInOfEachLength(t *testing.T) { // P7.1
	for n := range 150 {
		h, b := madeBlock(int64(n)), made(int64(-n), n)
		s := ghash.New(h)
		s.Write(b)
		stands(t, fmt.Sprintf("%d bytes", n), s, wantedTaken(h, aes.Block{}, b))
	}
}

func TestEachWriteIsFilledUp(t *testing.T) { // P7.1
	h, b := madeBlock(1), made(2, 70)
	for first := range 40 {
		for second := range 30 {
			s := ghash.New(h)
			s.Write(b[:first])
			want := wantedTaken(h, aes.Block{}, b[:first])
			stands(t, fmt.Sprintf("%d bytes", first), s, want)
			s.Write(b[first : first+second])
			want = wantedTaken(h, want, b[first:first+second])
			stands(t, fmt.Sprintf("%d bytes, and %d", first, second), s, want)
		}
	}
}

func TestNoughtsAreTakenInToo(t *testing.T) { // P7.1: none, one block and two of them are three texts
	h, b := madeBlock(3), made(4, 16)
	seen := map[aes.Block]int{}
	for blocks := range 5 {
		s := ghash.New(h)
		s.Write(b)
		s.Write(make([]byte, 16*blocks))
		want := aes.Block(b)
		for range blocks + 1 {
			want = wantedTimes(h, want)
		}
		stands(t, fmt.Sprintf("%d blocks of noughts", blocks), s, want)
		seen[s.Value()]++
	}
	if len(seen) != 5 {
		t.Errorf("%d sums", len(seen))
	}
}

func TestFilledUpWithNoughts(t *testing.T) { // P7.1
	h, b := madeBlock(5), made(6, 48)
	for n := range 48 {
		short, full := ghash.New(h), ghash.New(h)
		short.Write(b[:n])
		whole := make([]byte, (n+15)/16*16)
		copy(whole, b[:n])
		full.Write(whole)
		if one, other := short.Value(), full.Value(); one != other {
			t.Errorf("%d bytes: %x, filled up %x", n, one, other)
		}
	}
}

func TestUnderNoughtsAndUnderOne(t *testing.T) { // P7.1
	b := made(7, 64)
	nothing, one := ghash.New(aes.Block{}), ghash.New(power(0))
	var want aes.Block
	for at := 0; at < len(b); at += 16 {
		nothing.Write(b[at : at+16])
		one.Write(b[at : at+16])
		want = sum(want, aes.Block(b[at:at+16]))
		stands(t, "under noughts", nothing, aes.Block{})
		stands(t, "under one", one, want)
	}
}

func TestNoSum(t *testing.T) { // P7.1
	var s *ghash.Sum
	stands(t, "nil", s, aes.Block{})
	s.Write(nil)
	s.Write(made(8, 33))
	stands(t, "nil, written", s, aes.Block{})
}

func TestSumsKnowNothingOfOneAnother(t *testing.T) { // P7.1
	var sums []*ghash.Sum
	var wants []aes.Block
	for seed := range int64(10) {
		sums = append(sums, ghash.New(madeBlock(seed%5)))
		wants = append(wants, aes.Block{})
	}
	for step := range int64(5) {
		for i, s := range sums {
			b := made(100*step+int64(i), 9*i)
			s.Write(b)
			wants[i] = wantedTaken(madeBlock(int64(i)%5), wants[i], b)
		}
		for i, s := range sums {
			stands(t, fmt.Sprintf("the %d.", i), s, wants[i])
		}
	}
}

func TestNothingAndNothing(t *testing.T) { // P7.1
	list := edges()
	for bit := range 128 {
		list = append(list, power(bit))
	}
	for _, h := range list {
		for _, b := range [][2][]byte{{nil, nil}, {{}, {}}, {nil, {}}, {made(1, 9)[:0], nil}} {
			if got := ghash.Of(h, b[0], b[1]); got != (aes.Block{}) {
				t.Errorf("nothing and nothing under %x: %x", h, got)
			}
		}
	}
}

func TestTwoTextsOfEachLength(t *testing.T) { // P7.1
	for first := range 50 {
		for second := range 50 {
			h := madeBlock(int64(100*first + second))
			aad, text := made(int64(first), first), made(int64(-second-1), second)
			holds(t, h, aad, text)
			if got, want := ghash.Of(h, aad, text), wantedOf(h, aad, text); got != want {
				t.Errorf("%d bytes and %d: %x, not %x", first, second, got, want)
			}
		}
	}
}

func TestTwoTextsInTwoWrites(t *testing.T) { // P7.1
	for _, n := range []int{0, 1, 15, 16, 17, 40} {
		h, aad, text := madeBlock(9), made(10, n), made(11, 50-n)
		s := ghash.New(h)
		s.Write(aad)
		s.Write(text)
		s.Write(binary.BigEndian.AppendUint64(binary.BigEndian.AppendUint64(nil, 8*uint64(n)), 8*uint64(50-n)))
		stands(t, fmt.Sprintf("%d bytes, and the rest", n), s, ghash.Of(h, aad, text))
	}
}

func TestTextsThatArentTheSame(t *testing.T) { // P7.1: which text has the bytes, how many, and each bit
	h := madeBlock(12)
	seen := map[aes.Block]string{}
	see := func(what string, aad, text []byte) {
		got := ghash.Of(h, aad, text)
		if other, ok := seen[got]; ok {
			t.Errorf("%s has the sum of %s", what, other)
		}
		seen[got] = what
	}
	for n := range 20 {
		for m := range 20 {
			see(fmt.Sprintf("%d noughts and %d", n, m), make([]byte, n), make([]byte, m))
		}
	}
	for bit := range 8 * 40 {
		b := make([]byte, 40)
		b[bit/8] = 0x80 >> (bit % 8)
		see(fmt.Sprintf("bit %d, and nothing", bit), b, nil)
		see(fmt.Sprintf("nothing, and bit %d", bit), nil, b)
	}
}

func TestLongTexts(t *testing.T) { // P7.1
	for _, n := range []int{255, 256, 257, 8191, 8192, 8193, 1<<16 + 1, 1 << 20, 1<<20 + 7} {
		h := madeBlock(int64(n))
		holds(t, h, made(1, n), made(2, 3))
		holds(t, h, made(3, 3), made(4, n))
		holds(t, h, made(5, n), nil)
		holds(t, h, nil, made(6, n))
	}
}

func TestMoreBitsThanFourBytesCount(t *testing.T) { // P7.1
	many, few := make([]byte, 1<<29+5), make([]byte, 3)
	for name, k := range map[string]struct {
		aad, text []byte
		want      aes.Block
	}{
		"what is told": {many, few, aes.Block{3: 1, 7: 40, 15: 24}},
		"a text":       {few, many, aes.Block{7: 24, 11: 1, 15: 40}},
	} {
		t.Run(name, func(t *testing.T) {
			t.Parallel()                                                 // each takes some seconds
			if got := ghash.Of(power(0), k.aad, k.text); got != k.want { // under one the sum of noughts is the counts alone
				t.Errorf("%x, not %x", got, k.want)
			}
		})
	}
}

func TestManyTexts(t *testing.T) { // P7.1
	rnd := rand.New(rand.NewSource(3))
	for range 3000 {
		holds(t, madeBlock(rnd.Int63()), made(rnd.Int63(), rnd.Intn(200)), made(rnd.Int63(), rnd.Intn(200)))
	}
}

func FuzzTwoTexts(f *testing.F) { // P7.1, P7.2
	f.Add(make([]byte, 16), []byte{}, []byte{})
	f.Add(made(1, 16), made(2, 20), made(3, 60))
	f.Add([]byte{0x80}, []byte("a"), made(4, 16))
	f.Fuzz(func(t *testing.T, element, aad, text []byte) {
		var h aes.Block
		copy(h[:], element)
		holds(t, h, aad, text)
		if got, want := ghash.Of(h, aad, text), wantedOf(h, aad, text); got != want {
			t.Errorf("%x and %x under %x: %x, not %x", aad, text, h, got, want)
		}
		var b aes.Block
		copy(b[:], text)
		multiplies(t, h, b)
		inAnyOrder(t, h, b)
		inAnyWay(t, h, b, sum(h, b))
	})
}
