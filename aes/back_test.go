package aes_test

import (
	"testing"

	"coffret/aes"
)

// thereAndBack seals a block and opens that, and the other way round.
func thereAndBack(t *testing.T, c *aes.Cipher, b aes.Block) {
	t.Helper()
	if got := c.Open(c.Seal(b)); got != b {
		t.Errorf("%x is sealed, and opened as %x", b, got)
	}
	if got := c.Seal(c.Open(b)); got != b {
		t.Errorf("%x is opened, and sealed as %x", b, got)
	}
}

// eachOnce: no two of a list's blocks, which aren't the same, are answered as one.
func eachOnce(t *testing.T, what string, call func(aes.Block) aes.Block, list []aes.Block) {
	t.Helper()
	of := map[aes.Block]aes.Block{}
	for _, b := range list {
		answer := call(b)
		if other, ok := of[answer]; ok && other != b {
			t.Errorf("%s of %x and of %x: %x", what, b, other, answer)
		}
		of[answer] = b
	}
}

// neighbours: a block, and all those of which one byte alone is another one.
func neighbours(b aes.Block) []aes.Block {
	list := []aes.Block{b}
	for place := range b {
		for a := range 256 {
			other := b
			other[place] = byte(a)
			list = append(list, other)
		}
	}
	return list
}

func TestThereAndBack(t *testing.T) { // P6.2
	manyMade(t, 2, func(c *aes.Cipher, key []byte, b aes.Block) {
		thereAndBack(t, c, b)
		thereAndBack(t, c, aes.Block{})
	})
}

func TestThereAndBackByAnotherOfTheSameKey(t *testing.T) { // P6.2
	for _, length := range lengths {
		for seed := range int64(50) {
			key, b := made(seed, length), madeBlock(seed+100)
			if got := newOf(t, key).Open(newOf(t, key).Seal(b)); got != b {
				t.Errorf("under %x %x is opened as %x", key, b, got)
			}
		}
	}
}

func TestTwoBlocksAreSealedAsTwo(t *testing.T) { // P6.2
	for _, length := range lengths {
		for seed := range int64(5) {
			c := newOf(t, made(seed, length))
			for _, b := range []aes.Block{{}, madeBlock(seed), madeBlock(seed + 100)} {
				list := neighbours(b)
				eachOnce(t, "Seal", c.Seal, list)
				eachOnce(t, "Open", c.Open, list)
			}
		}
	}
}

func TestBlocksThatCount(t *testing.T) { // P6.2
	for _, length := range lengths {
		c := newOf(t, made(6, length))
		var list []aes.Block
		for n := range 1 << 16 {
			list = append(list, aes.Block{14: byte(n >> 8), 15: byte(n)})
		}
		eachOnce(t, "Seal", c.Seal, list)
		eachOnce(t, "Open", c.Open, list)
		for _, b := range list[:1<<10] {
			thereAndBack(t, c, b)
		}
	}
}

func TestAnotherKeyOpensNothing(t *testing.T) { // P6.1: each bit of the key counts
	for _, length := range lengths {
		key, b := made(7, length), madeBlock(8)
		sealed := newOf(t, key).Seal(b)
		for bit := range 8 * length {
			key[bit/8] ^= 1 << (bit % 8)
			if newOf(t, key).Open(sealed) == b {
				t.Errorf("a key of %d bytes opens with bit %d turned", length, bit)
			}
			key[bit/8] ^= 1 << (bit % 8)
		}
	}
}
