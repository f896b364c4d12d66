package aes_test

import (
	standard "crypto/aes"
	"math/rand"
	"testing"

	"coffret/aes"
	"coffret/field"
)

// wantedWords: the words of a key of n words, as the chapter says them.
func wantedWords(key []byte) [][]byte {
	n := len(key) / 4
	var words [][]byte
	for i := range 4 * (n + 7) {
		if i < n {
			words = append(words, key[4*i:4*i+4])
			continue
		}
		ahead := words[i-1]
		t := []byte{ahead[0], ahead[1], ahead[2], ahead[3]}
		if i%n == 0 {
			t = []byte{field.Box(ahead[1]), field.Box(ahead[2]), field.Box(ahead[3]), field.Box(ahead[0])}
			power := byte(0x01)
			for range i/n - 1 {
				power = field.Times(power, 0x02)
			}
			t[0] ^= power
		} else if n == 8 && i%8 == 4 {
			for k := range t {
				t[k] = field.Box(ahead[k])
			}
		}
		for k := range t {
			t[k] ^= words[i-n][k]
		}
		words = append(words, t)
	}
	return words
}

// takeIn: the state, column by column, exclusively with a round's key.
func takeIn(state *[4][4]byte, words [][]byte, round int) {
	for column := range state {
		for row := range state[column] {
			state[column][row] ^= words[4*round+column][row]
		}
	}
}

// wantedSeal: what a block is sealed as, as the chapter says it.
func wantedSeal(key []byte, b aes.Block) aes.Block {
	words := wantedWords(key)
	var state [4][4]byte // a column, and a row in it
	for i := range b {
		state[i/4][i%4] = b[i]
	}
	takeIn(&state, words, 0)
	rounds := len(key)/4 + 6
	for round := 1; round <= rounds; round++ {
		var made [4][4]byte
		for column := range state {
			for row := range state[column] {
				made[column][row] = field.Box(state[(column+row)%4][row])
			}
		}
		if round < rounds {
			boxed := made
			for column := range boxed {
				for k := range 4 {
					made[column][k] = 0
					for row, with := range []byte{0x02, 0x03, 0x01, 0x01} {
						made[column][k] ^= field.Times(boxed[column][(row+k)%4], with)
					}
				}
			}
		}
		state = made
		takeIn(&state, words, round)
	}
	var sealed aes.Block
	for i := range sealed {
		sealed[i] = state[i/4][i%4]
	}
	return sealed
}

// librarySeal: what a block is sealed as, as Go's library has it.
func librarySeal(t *testing.T, key []byte, b aes.Block) aes.Block {
	t.Helper()
	c, err := standard.NewCipher(key)
	if err != nil {
		t.Fatal(err)
	}
	var sealed aes.Block
	c.Encrypt(sealed[:], b[:])
	return sealed
}

// holds a block sealed, and opened, against the library.
func holds(t *testing.T, what string, c *aes.Cipher, key []byte, b aes.Block) {
	t.Helper()
	want := librarySeal(t, key, b)
	if got := c.Seal(b); got != want {
		t.Errorf("%s: under %x %x is sealed as %x, not %x", what, key, b, got, want)
	}
	if got := c.Open(want); got != b {
		t.Errorf("%s: under %x %x is opened as %x, not %x", what, key, want, got, b)
	}
}

// made: so many bytes, of a seed.
func made(seed int64, n int) []byte {
	b := make([]byte, n)
	rand.New(rand.NewSource(seed)).Read(b)
	return b
}

// madeBlock: a block, of a seed.
func madeBlock(seed int64) aes.Block {
	return aes.Block(made(seed, len(aes.Block{})))
}

// lengths that a key may have.
var lengths = []int{16, 32}

func TestTheChaptersWords(t *testing.T) { // P6.1
	for _, length := range lengths {
		for seed := range int64(300) {
			key, b := made(seed, length), madeBlock(-seed-1)
			want := wantedSeal(key, b)
			c := newOf(t, key)
			if got := c.Seal(b); got != want {
				t.Errorf("under %x %x is sealed as %x, not %x", key, b, got, want)
			}
			if got := c.Open(want); got != b {
				t.Errorf("under %x %x is opened as %x, not %x", key, want, got, b)
			}
			if other := librarySeal(t, key, b); other != want { // so that the test's own reading is the standard's
				t.Fatalf("under %x the chapter's words lead to %x, the library's to %x", key, want, other)
			}
		}
	}
}

func TestEachBitOfAKey(t *testing.T) { // P6.1
	for _, length := range lengths {
		for bit := range 8 * length {
			key := make([]byte, length)
			key[bit/8] = 0x80 >> (bit % 8)
			holds(t, "one bit", newOf(t, key), key, aes.Block{})
			for i := range key {
				key[i] = ^key[i]
			}
			holds(t, "all bits but one", newOf(t, key), key, madeBlock(int64(bit)))
		}
	}
}

func TestEachBitOfABlock(t *testing.T) { // P6.1
	for _, length := range lengths {
		for seed := range int64(3) {
			key := made(seed, length)
			c := newOf(t, key)
			for bit := range 128 {
				var b aes.Block
				b[bit/8] = 0x80 >> (bit % 8)
				holds(t, "one bit", c, key, b)
				for i := range b {
					b[i] = ^b[i]
				}
				holds(t, "all bits but one", c, key, b)
			}
		}
	}
}

func TestEachByteAtEachPlace(t *testing.T) { // P6.1
	for _, length := range lengths {
		key := made(1, length)
		c := newOf(t, key)
		for place := range len(aes.Block{}) {
			for a := range 256 {
				b := madeBlock(2)
				b[place] = byte(a)
				holds(t, "one byte", c, key, b)
			}
		}
		for place := range length {
			for a := range 256 {
				key[place] = byte(a)
				holds(t, "one byte of the key", newOf(t, key), key, aes.Block{})
			}
		}
	}
}

// manyMade calls with many keys' Ciphers, and some blocks each, of a seed.
func manyMade(t *testing.T, seed int64, call func(c *aes.Cipher, key []byte, b aes.Block)) {
	t.Helper()
	rnd := rand.New(rand.NewSource(seed))
	for range 3000 {
		key := made(rnd.Int63(), lengths[rnd.Intn(2)])
		c := newOf(t, key)
		for range 10 {
			call(c, key, madeBlock(rnd.Int63()))
		}
	}
}

func TestManyKeysAndBlocks(t *testing.T) { // P6.1
	manyMade(t, 1, func(c *aes.Cipher, key []byte, b aes.Block) {
		holds(t, "made up", c, key, b)
	})
}

func TestBlocksSealedManyTimes(t *testing.T) { // P6.1
	for _, length := range lengths {
		key := made(3, length)
		c := newOf(t, key)
		var b, want aes.Block
		for range 20000 {
			b, want = c.Seal(b), librarySeal(t, key, want)
		}
		if b != want {
			t.Errorf("a key of %d bytes: %x, not %x", length, b, want)
		}
		for range 20000 {
			b = c.Open(b)
		}
		if b != (aes.Block{}) {
			t.Errorf("a key of %d bytes: back to %x", length, b)
		}
	}
}

func TestTheSameKeyTwice(t *testing.T) { // P6.1
	short := made(4, 16)
	long := append(append([]byte{}, short...), short...) // another key than its half
	b := madeBlock(5)
	holds(t, "a half", newOf(t, short), short, b)
	holds(t, "twice the half", newOf(t, long), long, b)
	if newOf(t, short).Seal(b) == newOf(t, long).Seal(b) {
		t.Error("a key and twice the key seal alike")
	}
}

func FuzzKeyAndBlock(f *testing.F) { // P6.1, P6.2
	f.Add(make([]byte, 16), make([]byte, 16))
	f.Add(made(1, 32), made(2, 16))
	f.Fuzz(func(t *testing.T, key, block []byte) {
		var b aes.Block
		copy(b[:], block)
		if len(key) != 16 && len(key) != 32 {
			isNoKey(t, key)
			return
		}
		c := newOf(t, key)
		holds(t, "made up", c, key, b)
		thereAndBack(t, c, b)
	})
}
