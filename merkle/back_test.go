package merkle_test

import (
	"math/rand"
	"slices"
	"testing"

	"coffret/merkle"
)

// leadsBack: each leaf's path leads to the root of all.
func (m made) leadsBack(t *testing.T, leaves []digest) {
	t.Helper()
	root := merkle.Root(m.v, leaves...)
	for i, d := range leaves {
		if !merkle.Check(m.v, root, i, len(leaves), d, merkle.Path(m.v, i, leaves...)...) {
			t.Fatalf("%s: the path to %d of %d doesn't lead to the root", m.what, i, len(leaves))
		}
	}
}

func TestEachLeafsPathLeadsToTheRoot(t *testing.T) { // P14.2
	rnd := rand.New(rand.NewSource(1))
	for _, m := range vaults() {
		for n := range 70 {
			m.leadsBack(t, anyDigests(rnd, n))
			m.leadsBack(t, make([]digest, n)) // all the same ones
		}
		for _, n := range []int{127, 128, 129, 200, 256, 257} {
			m.leadsBack(t, anyDigests(rnd, n))
		}
	}
}

// listsOf n, of some digests.
func listsOf(n int, some []digest) [][]digest {
	if n == 0 {
		return [][]digest{nil}
	}
	var out [][]digest
	for _, rest := range listsOf(n-1, some) {
		for _, d := range some {
			out = append(out, append(slices.Clone(rest), d))
		}
	}
	return out
}

func TestNoTwoListsOfAsManyHaveOneRoot(t *testing.T) { // P14.2: all lists of three digests, one of which is two others'
	for _, m := range vaults()[:2] {
		a, b := merkle.Leaf(m.v, []byte("a")), merkle.Leaf(m.v, []byte("b"))
		some := []digest{a, b, merkle.Root(m.v, a, b)}
		for n := range 8 {
			seen := map[digest]int{}
			for k, list := range listsOf(n, some) {
				root := merkle.Root(m.v, list...)
				if other, ok := seen[root]; ok {
					t.Fatalf("%s: the lists %d and %d of %d have one root", m.what, other, k, n)
				}
				seen[root] = k
				if root != merkle.Root(m.v, slices.Clone(list)...) {
					t.Fatalf("%s: the list %d of %d has two roots", m.what, k, n)
				}
			}
		}
	}
}

func TestEachLeafOfAListMatters(t *testing.T) { // P14.2: changed by a bit, or in another's place
	rnd := rand.New(rand.NewSource(2))
	for _, m := range vaults()[:2] {
		for _, n := range []int{1, 2, 3, 4, 5, 6, 7, 8, 9, 15, 16, 17, 31, 33, 64, 65} {
			leaves := anyDigests(rnd, n)
			root := merkle.Root(m.v, leaves...)
			for i := range leaves {
				was := leaves[i]
				leaves[i][rnd.Intn(32)] ^= 1 << rnd.Intn(8)
				if merkle.Root(m.v, leaves...) == root {
					t.Errorf("%s: %d of %d is changed, but not the root", m.what, i, n)
				}
				leaves[i] = was
				for k := range i {
					leaves[i], leaves[k] = leaves[k], leaves[i]
					if merkle.Root(m.v, leaves...) == root {
						t.Errorf("%s: %d and %d of %d stand in one another's place", m.what, i, k, n)
					}
					leaves[i], leaves[k] = leaves[k], leaves[i]
				}
			}
			if merkle.Root(m.v, leaves...) != root {
				t.Errorf("%s: one list of %d has two roots", m.what, n)
			}
		}
	}
}

func TestAnyLeavesAndPaths(t *testing.T) { // P14.1, P14.2: made up
	rnd := rand.New(rand.NewSource(3))
	for _, m := range vaults() {
		led := 0
		for range 4000 {
			leaves := anyDigests(rnd, rnd.Intn(40))
			i := rnd.Intn(len(leaves)+3) - 1
			m.same(t, i, leaves)
			if i < 0 || i >= len(leaves) {
				continue
			}
			root, d, path := merkle.Root(m.v, leaves...), leaves[i], merkle.Path(m.v, i, leaves...)
			n := len(leaves)
			switch rnd.Intn(6) {
			case 0:
				i = rnd.Intn(n)
			case 1:
				n = rnd.Intn(64)
			case 2:
				path = append(path, d)
			case 3:
				path = path[:rnd.Intn(len(path)+1)]
			case 4:
				d = leaves[rnd.Intn(len(leaves))]
			}
			if m.checks(t, root, i, n, d, path) {
				led++
			}
		}
		if led < 500 || led > 3500 {
			t.Errorf("%s: %d led to the root", m.what, led)
		}
	}
}

func FuzzAnyLeaves(f *testing.F) { // P14.1, P14.2
	f.Add([]byte{}, 0, 0, 0)
	f.Add([]byte("a"), 0, 1, 0)
	f.Add([]byte("abc"), 2, 3, 1)
	f.Add([]byte("abcdefgh"), 7, 8, 3)
	f.Add([]byte("abcdefghi"), 8, 1<<62, 62)
	f.Fuzz(func(t *testing.T, b []byte, i, n, cut int) {
		b = b[:min(len(b), 200)]
		for _, m := range vaults() {
			var leaves []digest
			for k := range b {
				d := merkle.Leaf(m.v, b[:k])
				if d != m.w.leaf(b[:k]) {
					t.Fatalf("%s: the leaf of %x is %x", m.what, b[:k], d)
				}
				leaves = append(leaves, d)
			}
			m.same(t, i, leaves)
			if len(leaves) == 0 {
				continue
			}
			at := int(uint(i) % uint(len(leaves)))
			m.same(t, at, leaves)
			root, path := merkle.Root(m.v, leaves...), merkle.Path(m.v, at, leaves...)
			m.checks(t, root, i, n, leaves[at], path)
			m.checks(t, root, at, len(leaves), leaves[at], path[:int(uint(cut)%uint(len(path)+1))])
			shown := leaves[:min(len(leaves), int(uint(cut)%64))]
			if to, ok := m.w.leads(i, n, leaves[at], shown); ok {
				m.checks(t, to, i, n, leaves[at], shown)
			}
		}
	})
}
