package ghash_test

import (
	"math/rand"
	"testing"

	"coffret/aes"
	"coffret/ghash"
)

// coefficients of a block, that of 1 first, as the chapter numbers its bits.
func coefficients(b aes.Block) [128]byte {
	var list [128]byte
	for i := range list {
		list[i] = b[i/8] >> (7 - i%8) & 1
	}
	return list
}

// wantedTimes: the product of two blocks, as the chapter says it: multiplied out, and then divided.
func wantedTimes(a, b aes.Block) aes.Block {
	var product [255]byte
	for i, p := range coefficients(a) {
		for j, q := range coefficients(b) {
			product[i+j] ^= p & q
		}
	}
	for power := len(product) - 1; power >= 128; power-- {
		times := product[power]
		for _, of := range []int{128, 7, 2, 1, 0} {
			product[power-128+of] ^= times
		}
	}
	var left aes.Block
	for i := range 128 {
		left[i/8] |= product[i] << (7 - i%8)
	}
	return left
}

// made: so many bytes, of a seed.
func made(seed int64, n int) []byte {
	b := make([]byte, n)
	rand.New(rand.NewSource(seed)).Read(b)
	return b
}

// madeBlock: a block, of a seed.
func madeBlock(seed int64) aes.Block {
	return aes.Block(made(seed, len(aes.Block{})))
}

// power of x, below the 128th.
func power(n int) aes.Block {
	var b aes.Block
	b[n/8] = 0x80 >> (n % 8)
	return b
}

// sum of two blocks.
func sum(a, b aes.Block) aes.Block {
	for i := range a {
		a[i] ^= b[i]
	}
	return a
}

// ones: a block of all bits.
func ones() aes.Block {
	var b aes.Block
	for i := range b {
		b[i] = 0xff
	}
	return b
}

// multiplies holds a product against the chapter's words.
func multiplies(t *testing.T, a, b aes.Block) {
	t.Helper()
	if got, want := ghash.Times(a, b), wantedTimes(a, b); got != want {
		t.Errorf("%x times %x: %x, not %x", a, b, got, want)
	}
}

func TestTheChaptersWords(t *testing.T) { // P7.1
	for seed := range int64(3000) {
		multiplies(t, madeBlock(seed), madeBlock(-seed-1))
	}
}

func TestEachTwoPowers(t *testing.T) { // P7.1
	for i := range 128 {
		for j := range 128 {
			multiplies(t, power(i), power(j))
			if i+j < 128 && ghash.Times(power(i), power(j)) != power(i+j) {
				t.Errorf("the powers %d and %d of x: %x", i, j, ghash.Times(power(i), power(j)))
			}
		}
	}
}

func TestWhatIsLeftOfX128(t *testing.T) { // P7.1: the chapter's x^7 + x^2 + x + 1, spelt as bits
	left := aes.Block{0xe1}
	for i := 1; i < 128; i++ {
		if got := ghash.Times(power(i), power(128-i)); got != left {
			t.Errorf("the powers %d and %d of x: %x, not %x", i, 128-i, got, left)
		}
	}
	if got, want := ghash.Times(power(127), power(2)), ghash.Times(left, power(1)); got != want {
		t.Errorf("the power 129 of x: %x, not %x", got, want)
	}
}

func TestEachBitOfAProduct(t *testing.T) { // P7.1
	for bit := range 128 {
		one, all := power(bit), sum(ones(), power(bit))
		for _, other := range []aes.Block{madeBlock(1), madeBlock(2), ones(), power(0), power(127), all} {
			multiplies(t, one, other)
			multiplies(t, other, one)
			multiplies(t, all, other)
			multiplies(t, other, all)
		}
	}
}

func TestEachByteAtEachPlace(t *testing.T) { // P7.1
	with := madeBlock(3)
	for place := range len(aes.Block{}) {
		for a := range 256 {
			var b aes.Block
			b[place] = byte(a)
			multiplies(t, b, with)
			multiplies(t, with, b)
		}
	}
}

func TestNothingTimesAnything(t *testing.T) { // P7.1
	var nothing aes.Block
	list := []aes.Block{nothing, ones(), power(0), power(127)}
	for seed := range int64(500) {
		list = append(list, madeBlock(seed))
	}
	for _, b := range list {
		if one, other := ghash.Times(b, nothing), ghash.Times(nothing, b); one != nothing || other != nothing {
			t.Errorf("%x and noughts: %x, and %x", b, one, other)
		}
	}
}

func TestSumsAreMultipliedEach(t *testing.T) { // P7.1
	for seed := range int64(2000) {
		a, b, c := madeBlock(seed), madeBlock(seed+5000), madeBlock(seed+10000)
		if one, other := ghash.Times(sum(a, b), c), sum(ghash.Times(a, c), ghash.Times(b, c)); one != other {
			t.Errorf("(%x + %x) %x: %x, or %x", a, b, c, one, other)
		}
	}
}

func TestSquaredAsOftenAsThereAreBits(t *testing.T) { // P7.1: so each element of a field of 2^128 is itself again
	for seed := range int64(200) {
		want := madeBlock(seed)
		b := want
		for range 128 {
			b = ghash.Times(b, b)
		}
		if b != want {
			t.Errorf("%x squared 128 times: %x", want, b)
		}
	}
}
