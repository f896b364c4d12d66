package merkle_test

import (
	"math"
	"math/rand"
	"testing"

	"coffret/merkle"
)

func TestNoSuchLeaf(t *testing.T) { // P14.1: no path, and whatever is shown leads nowhere
	rnd := rand.New(rand.NewSource(1))
	for _, m := range vaults() {
		for _, n := range []int{0, 1, 2, 3, 4, 7, 8, 9, 33} {
			leaves := anyDigests(rnd, n)
			root := merkle.Root(m.v, leaves...)
			for _, i := range []int{n, n + 1, 2 * n, -1, -2, -n, -n - 1, 1 << 32, 1 << 62, -1 << 32, math.MaxInt, math.MinInt, math.MinInt + n} {
				if i >= 0 && i < n {
					continue
				}
				if p := merkle.Path(m.v, i, leaves...); len(p) != 0 {
					t.Errorf("%s: a path to %d of %d: %x", m.what, i, n, p)
				}
				shown := append(leaves, root, digest{})
				for _, d := range shown {
					for k := range len(shown) + 1 {
						if merkle.Check(m.v, root, i, n, d, shown[:k]...) {
							t.Errorf("%s: %d of %d, with a path of %d", m.what, i, n, k)
						}
					}
				}
			}
		}
	}
}

func TestNoLeavesAtAll(t *testing.T) { // P14.1: of none, or of fewer, there is no leaf
	for _, m := range vaults() {
		root := merkle.Root(m.v)
		for _, n := range []int{0, -1, -2, -1 << 32, math.MinInt, math.MinInt + 1} {
			for _, i := range []int{0, 1, -1, n, n - 1, n + 1, n / 2, math.MaxInt, math.MinInt} {
				if merkle.Check(m.v, root, i, n, root) || merkle.Check(m.v, root, i, n, root, root) || merkle.Check(m.v, digest{}, i, n, digest{}) {
					t.Errorf("%s: %d of %d", m.what, i, n)
				}
			}
		}
	}
}

func TestAPathOfAnotherLength(t *testing.T) { // P14.1: even if it leads to that root
	rnd := rand.New(rand.NewSource(2))
	for _, m := range vaults() {
		for n := 1; n < 20; n++ {
			leaves := anyDigests(rnd, n)
			root := merkle.Root(m.v, leaves...)
			for i, d := range leaves {
				path := merkle.Path(m.v, i, leaves...)
				longer := append(path[:len(path):len(path)], root, digest{}, d)
				for k := range len(longer) + 1 {
					if ok := merkle.Check(m.v, root, i, n, d, longer[:k]...); ok != (k == len(path)) {
						t.Errorf("%s: %d of %d, with %d of a path of %d: %t", m.what, i, n, k, len(path), ok)
					}
				}
				if len(path) > 0 && merkle.Check(m.v, root, i, n, root) {
					t.Errorf("%s: %d of %d: the root itself, with no path", m.what, i, n)
				}
				up := merkle.Root(m.v, d, digest{})
				if merkle.Check(m.v, up, 0, 1, d, digest{}) {
					t.Errorf("%s: one leaf, with a path of another one", m.what)
				}
			}
		}
	}
}

func TestEachBitMatters(t *testing.T) { // P14.1: of the root, of the leaf, and of the path
	rnd := rand.New(rand.NewSource(3))
	for _, m := range vaults()[:2] {
		for _, n := range []int{1, 2, 3, 5, 8, 13} {
			leaves := anyDigests(rnd, n)
			i := rnd.Intn(n)
			root, d, path := merkle.Root(m.v, leaves...), leaves[i], merkle.Path(m.v, i, leaves...)
			all := []*digest{&root, &d}
			for k := range path {
				all = append(all, &path[k])
			}
			for k, x := range all {
				for bit := range 256 {
					x[bit/8] ^= 1 << (bit % 8)
					if merkle.Check(m.v, root, i, n, d, path...) {
						t.Errorf("%s: %d of %d: bit %d of digest %d", m.what, i, n, bit, k)
					}
					x[bit/8] ^= 1 << (bit % 8)
				}
			}
			if !merkle.Check(m.v, root, i, n, d, path...) {
				t.Errorf("%s: %d of %d", m.what, i, n)
			}
		}
	}
}

func TestOtherPlacesAndNumbers(t *testing.T) { // P14.1: a leaf's path, shown as another's, or as one's of another number
	rnd := rand.New(rand.NewSource(4))
	for _, m := range vaults() {
		led := 0
		for n := 1; n < 18; n++ {
			leaves := anyDigests(rnd, n)
			root := merkle.Root(m.v, leaves...)
			for i, d := range leaves {
				path := merkle.Path(m.v, i, leaves...)
				for other := -1; other < 20; other++ {
					for j := -1; j <= other; j++ {
						if m.checks(t, root, j, other, d, path) && other == n {
							led++
							if j != i && m.v != nil {
								t.Fatalf("%s: %d of %d passes for %d", m.what, i, n, j)
							}
						}
					}
				}
			}
		}
		if m.v != nil && led != 17*18/2 {
			t.Errorf("%s: %d paths led to their roots", m.what, led)
		}
	}
}

func TestTheOrderOfAPathMatters(t *testing.T) { // P14.1
	m := realOne()
	leaves := anyDigests(rand.New(rand.NewSource(5)), 16)
	root := merkle.Root(m.v, leaves...)
	for i, d := range leaves {
		path := merkle.Path(m.v, i, leaves...)
		for a := range path {
			for b := range a {
				path[a], path[b] = path[b], path[a]
				if merkle.Check(m.v, root, i, 16, d, path...) {
					t.Errorf("%d: %d and %d", i, a, b)
				}
				path[a], path[b] = path[b], path[a]
			}
		}
	}
}

func TestNothingPassesForWhatItIsNot(t *testing.T) { // P14.1: a leaf, none, and two have marks of their own
	for _, m := range vaults()[:2] {
		a, b := merkle.Leaf(m.v, []byte("a")), merkle.Leaf(m.v, []byte("b"))
		both := append(a[:], b[:]...)
		root := merkle.Root(m.v, a, b)
		seen := map[digest]string{}
		for _, x := range []struct {
			what string
			d    digest
		}{
			{"two", root},
			{"two the other way round", merkle.Root(m.v, b, a)},
			{"a leaf of both", merkle.Leaf(m.v, both)},
			{"a leaf of both with the mark of two", merkle.Leaf(m.v, append([]byte("2"), both...))},
			{"a leaf of both with the mark of a leaf", merkle.Leaf(m.v, append([]byte("1"), both...))},
			{"none", merkle.Root(m.v)},
			{"a leaf of nothing", merkle.Leaf(m.v, nil)},
			{"a leaf of the mark of none", merkle.Leaf(m.v, []byte("0"))},
			{"both alone", m.v.Hash(both)},
			{"nothing", m.v.Hash()},
		} {
			if other, ok := seen[x.d]; ok {
				t.Errorf("%s: %s and %s have one digest", m.what, x.what, other)
			}
			seen[x.d] = x.what
		}
	}
}
