package merkle_test

import (
	"bytes"
	"math/rand"
	"slices"
	"testing"

	"coffret/merkle"
)

// roomy: the list with spare room behind it, which is filled.
func roomy(list []digest) []digest {
	return append(slices.Clone(list), digest{0xaa}, digest{0xbb}, digest{0xcc})[:len(list)]
}

// whole is the list with its spare room.
func whole(list []digest) []digest {
	return slices.Clone(list[:len(list)+3])
}

func TestNothingHandedInIsChanged(t *testing.T) { // P14.1: spare room included
	rnd := rand.New(rand.NewSource(1))
	for _, m := range vaults() {
		for n := range 34 {
			leaves := roomy(anyDigests(rnd, n))
			was := whole(leaves)
			root := merkle.Root(m.v, leaves...)
			for i := -1; i <= n; i++ {
				path := roomy(merkle.Path(m.v, i, leaves...))
				shown := whole(path)
				merkle.Check(m.v, root, i, n, digest{1}, path...)
				if !slices.Equal(whole(path), shown) {
					t.Fatalf("%s: a path to %d of %d is changed", m.what, i, n)
				}
			}
			if !slices.Equal(whole(leaves), was) {
				t.Fatalf("%s: %d leaves are changed", m.what, n)
			}
		}
		b := []byte("some bytes and more")
		merkle.Leaf(m.v, b[:10])
		if string(b) != "some bytes and more" {
			t.Errorf("%s: bytes are changed", m.what)
		}
	}
}

func TestAPathIsNewMemory(t *testing.T) { // P14.1: it shares none with the leaves, with another path, or with what a vault keeps
	rnd := rand.New(rand.NewSource(2))
	for _, m := range vaults() {
		for n := 1; n < 34; n++ {
			leaves := anyDigests(rnd, n)
			was := slices.Clone(leaves)
			for i := range leaves {
				first, second := merkle.Path(m.v, i, leaves...), merkle.Path(m.v, i, leaves...)
				want := m.w.path(i, leaves)
				for _, list := range [][]digest{first, first[:cap(first)]} {
					for k := range list {
						list[k] = digest{0xff}
					}
				}
				if !slices.Equal(second, want) || !slices.Equal(leaves, was) || !slices.Equal(merkle.Path(m.v, i, leaves...), want) {
					t.Fatalf("%s: the path to %d of %d shares memory", m.what, i, n)
				}
			}
		}
	}
}

func TestNothingHandedInIsKept(t *testing.T) { // P14.1: what is written into it behind a call isn't seen
	for _, m := range vaults() {
		b := []byte("some bytes")
		d := merkle.Leaf(m.v, b)
		clear(b)
		if merkle.Leaf(m.v, []byte("some bytes")) != d || merkle.Leaf(m.v, bytes.Clone(b)) != m.w.leaf(b) {
			t.Errorf("%s: bytes are kept", m.what)
		}
		leaves := anyDigests(rand.New(rand.NewSource(3)), 11)
		root, path := merkle.Root(m.v, leaves...), merkle.Path(m.v, 3, leaves...)
		again := slices.Clone(leaves)
		clear(leaves)
		if merkle.Root(m.v, again...) != root || !slices.Equal(path, m.w.path(3, again)) || merkle.Root(m.v, leaves...) != m.w.root(leaves) {
			t.Errorf("%s: leaves are kept", m.what)
		}
	}
}
