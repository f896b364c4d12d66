package merkle_test

import (
	"crypto/sha256"
	"encoding/hex"
	"math"
	"math/rand"
	"slices"
	"testing"

	"coffret/ideal"
	"coffret/merkle"
	"coffret/vault"
)

type digest = [32]byte

// words: the chapter's, spelt out, over whatever makes digests.
type words struct {
	hash func(b []byte) digest
}

func (w words) leaf(b []byte) digest {
	return w.hash(append([]byte{0x31}, b...))
}

func (w words) two(left, right digest) digest {
	return w.hash(slices.Concat([]byte{0x32}, left[:], right[:]))
}

// greatest power of 2 below n.
func greatest(n int) int {
	k := 1
	for k < n-k { // 2k < n, where 2k may be too much for an int
		k += k
	}
	return k
}

func (w words) root(leaves []digest) digest {
	switch len(leaves) {
	case 0:
		return w.hash([]byte{0x30})
	case 1:
		return leaves[0]
	}
	k := greatest(len(leaves))
	return w.two(w.root(leaves[:k]), w.root(leaves[k:]))
}

func (w words) path(i int, leaves []digest) []digest {
	n := len(leaves)
	switch {
	case i < 0 || i >= n || n == 1:
		return nil
	case i < greatest(n):
		return append(w.path(i, leaves[:greatest(n)]), w.root(leaves[greatest(n):]))
	}
	return append(w.path(i-greatest(n), leaves[greatest(n):]), w.root(leaves[:greatest(n)]))
}

// leads: to which root a path leads; false, if it is none to the i-th of n.
func (w words) leads(i, n int, d digest, path []digest) (digest, bool) {
	switch {
	case i < 0 || i >= n:
		return digest{}, false
	case n == 1:
		return d, len(path) == 0
	case len(path) == 0:
		return digest{}, false
	}
	k, last, rest := greatest(n), path[len(path)-1], path[:len(path)-1]
	if i < k {
		left, ok := w.leads(i, k, d, rest)
		return w.two(left, last), ok
	}
	right, ok := w.leads(i-k, n-k, d, rest)
	return w.two(last, right), ok
}

func (w words) check(root digest, i, n int, d digest, path []digest) bool {
	to, ok := w.leads(i, n, d, path)
	return ok && to == root
}

// made: a vault, and the words over what makes its digests.
type made struct {
	what string
	v    *vault.Vault
	w    words
}

// vaults: a real one, whose digests Go's own library makes, too; an ideal one, whose world is asked for them; none.
func vaults() []made {
	world := ideal.New()
	return []made{
		{"real", vault.Real(vault.Key{1}, 9), words{func(b []byte) digest { return sha256.Sum256(b) }}},
		{"ideal", vault.Ideal(world, vault.Key{1}, 9), words{func(b []byte) digest { return world.Hash(b) }}},
		{"nil", nil, words{func([]byte) digest { return digest{} }}},
	}
}

// realOne: the real one alone.
func realOne() made {
	return vaults()[0]
}

// anyDigests: so many, made up.
func anyDigests(rnd *rand.Rand, n int) []digest {
	list := make([]digest, n)
	for i := range list {
		rnd.Read(list[i][:])
	}
	return list
}

// numbers of leaves: all small ones, and those about powers of 2.
func numbers() []int {
	var list []int
	for n := range 35 {
		list = append(list, n)
	}
	return append(list, 63, 64, 65, 66, 96, 100, 127, 128, 129, 255, 256, 257, 1000, 1023, 1024, 1025)
}

// same answers as the words say, of these leaves and of the i-th one.
func (m made) same(t *testing.T, i int, leaves []digest) {
	t.Helper()
	root, path := merkle.Root(m.v, leaves...), merkle.Path(m.v, i, leaves...)
	if want := m.w.root(leaves); root != want {
		t.Fatalf("%s: the root of %d leaves is %x, not %x", m.what, len(leaves), root, want)
	}
	if want := m.w.path(i, leaves); !slices.Equal(path, want) {
		t.Fatalf("%s: the path to %d of %d leaves is %x, not %x", m.what, i, len(leaves), path, want)
	}
	var d digest
	if i >= 0 && i < len(leaves) {
		d = leaves[i]
	}
	m.checks(t, root, i, len(leaves), d, path)
}

// checks as the words say.
func (m made) checks(t *testing.T, root digest, i, n int, d digest, path []digest) bool {
	t.Helper()
	ok := merkle.Check(m.v, root, i, n, d, path...)
	if want := m.w.check(root, i, n, d, path); ok != want {
		t.Fatalf("%s: Check of %d of %d, with a path of %d: %t", m.what, i, n, len(path), ok)
	}
	return ok
}

// text of a digest.
func text(d digest) string {
	return hex.EncodeToString(d[:])
}

func TestDigestsSpeltOut(t *testing.T) { // P14.1: of the bytes "a", "b" and "c", in numbers
	v := vault.Real(vault.Key{}, 0)
	a, b, c := merkle.Leaf(v, []byte("a")), merkle.Leaf(v, []byte("b")), merkle.Leaf(v, []byte("c"))
	for _, x := range []struct {
		what string
		d    digest
		want string
	}{
		{"a leaf of nothing", merkle.Leaf(v, nil), "6b86b273ff34fce19d6b804eff5a3f5747ada4eaa22f1d49c01e52ddb7875b4b"},
		{"a", a, "a73fcf339640929207281fb8e038884806e2eb0840f2245694dbba1d5cc89e65"},
		{"none", merkle.Root(v), "5feceb66ffc86f38d952786c6d696c79c2dbc239dd4e91b46729d73a27fb57e9"},
		{"one", merkle.Root(v, a), "a73fcf339640929207281fb8e038884806e2eb0840f2245694dbba1d5cc89e65"},
		{"two", merkle.Root(v, a, b), "bcb086ed9fb6d9d9e2cb23ea64b608c7edf225984b41affae2f24f1541b02b12"},
		{"three", merkle.Root(v, a, b, c), "1c7ab2b6a8c9294e1b577629aaa6812f2ded0f51992a109d8322e22cb2dede56"},
		{"four", merkle.Root(v, a, b, c, a), "d1a43f7acfb42295dc8cb569be9afeeeb226cccd46de0945bbbbd18ddd05b8d0"},
		{"five", merkle.Root(v, a, b, c, a, b), "42b16fc674f66d0aaefc8a5029c89be768adbaf5ddbd0494c7e18846ba6a0a60"},
	} {
		if text(x.d) != x.want {
			t.Errorf("%s: %x, not %s", x.what, x.d, x.want)
		}
	}
}

func TestOfOneLeafTheRootIsTheLeafAndThePathIsNone(t *testing.T) { // P14.1: the chapter's example, in any vault
	for _, m := range vaults() {
		for _, d := range []digest{{}, {1}, {31: 0xff}, merkle.Leaf(m.v, []byte("a"))} {
			if merkle.Root(m.v, d) != d || len(merkle.Path(m.v, 0, d)) != 0 || !merkle.Check(m.v, d, 0, 1, d) {
				t.Errorf("%s: %x", m.what, d)
			}
		}
	}
}

func TestLeaf(t *testing.T) { // P14.1: of any bytes, of any number of them
	rnd := rand.New(rand.NewSource(1))
	for _, m := range vaults() {
		for _, n := range append(numbers(), 1<<16, 1<<20+1) {
			b := make([]byte, n)
			rnd.Read(b)
			if d, want := merkle.Leaf(m.v, b), m.w.leaf(b); d != want {
				t.Fatalf("%s: the leaf of %d bytes is %x, not %x", m.what, n, d, want)
			}
		}
		for c := range 256 {
			if b := []byte{byte(c)}; merkle.Leaf(m.v, b) != m.w.leaf(b) {
				t.Errorf("%s: the leaf of %02x", m.what, c)
			}
		}
		if merkle.Leaf(m.v, nil) != m.w.leaf(nil) || merkle.Leaf(m.v, []byte{}) != m.w.leaf(nil) {
			t.Errorf("%s: the leaf of nothing", m.what)
		}
	}
}

func TestRootsPathsAndChecks(t *testing.T) { // P14.1: of all small numbers of leaves, and of those about powers of 2
	rnd := rand.New(rand.NewSource(2))
	for _, m := range vaults() {
		for _, n := range numbers() {
			leaves := anyDigests(rnd, n)
			places := []int{-1, 0, 1, n / 2, n/2 + 1, n - 2, n - 1, n, n + 1}
			if n <= 66 {
				places = nil
				for i := -3; i < n+3; i++ {
					places = append(places, i)
				}
			}
			for _, i := range places {
				m.same(t, i, leaves)
			}
		}
	}
}

// pairedUp: the root of leaves in another way, row by row: a last one that has no other goes up as it is.
func pairedUp(hash func(b []byte) digest, row []digest) digest {
	for len(row) > 1 {
		var up []digest
		for len(row) > 1 {
			up = append(up, hash(slices.Concat([]byte("2"), row[0][:], row[1][:])))
			row = row[2:]
		}
		row = append(up, row...)
	}
	return row[0]
}

func TestRootRowByRow(t *testing.T) { // P14.1: k is the greatest power of 2 below their number
	rnd := rand.New(rand.NewSource(3))
	m := realOne()
	for n := 1; n < 600; n++ {
		leaves := anyDigests(rnd, n)
		if root, want := merkle.Root(m.v, leaves...), pairedUp(m.w.hash, leaves); root != want {
			t.Fatalf("the root of %d leaves is %x, not %x", n, root, want)
		}
	}
}

func TestPathsBeginAtTheLeaf(t *testing.T) { // P14.1: the order of a path, spelt out
	m := realOne()
	l := anyDigests(rand.New(rand.NewSource(4)), 7)
	two := m.w.two
	for i, want := range [7][]digest{
		{l[1], two(l[2], l[3]), two(two(l[4], l[5]), l[6])},
		{l[0], two(l[2], l[3]), two(two(l[4], l[5]), l[6])},
		{l[3], two(l[0], l[1]), two(two(l[4], l[5]), l[6])},
		{l[2], two(l[0], l[1]), two(two(l[4], l[5]), l[6])},
		{l[5], l[6], two(two(l[0], l[1]), two(l[2], l[3]))},
		{l[4], l[6], two(two(l[0], l[1]), two(l[2], l[3]))},
		{two(l[4], l[5]), two(two(l[0], l[1]), two(l[2], l[3]))},
	} {
		if path := merkle.Path(m.v, i, l...); !slices.Equal(path, want) {
			t.Errorf("the path to %d of 7 is %x, not %x", i, path, want)
		}
	}
}

func TestCheckOfMoreLeavesThanThereCanBe(t *testing.T) { // P14.1: up to the greatest number; nobody need have the leaves
	rnd := rand.New(rand.NewSource(5))
	long := anyDigests(rnd, 70)
	d := digest{7}
	for _, m := range vaults() {
		for _, x := range []struct{ i, n, steps int }{
			{0, math.MaxInt, 63}, {math.MaxInt - 1, math.MaxInt, 62}, {1 << 62, math.MaxInt, 63}, {1<<62 - 1, math.MaxInt, 63},
			{0, 1 << 62, 62}, {1<<62 - 1, 1 << 62, 62}, {1 << 61, 1 << 62, 62}, {0, 1<<62 + 1, 63}, {1 << 62, 1<<62 + 1, 1},
			{1 << 31, 1<<31 + 1, 1}, {1 << 32, 1<<32 + 1, 1}, {1<<32 + 1, 1<<32 + 2, 2}, {5, 1 << 33, 33}, {1<<40 - 1, 1 << 40, 40}, {1<<40 - 2, 1<<40 - 1, 39},
		} {
			root, ok := m.w.leads(x.i, x.n, d, long[:x.steps])
			if !ok || !m.checks(t, root, x.i, x.n, d, long[:x.steps]) {
				t.Errorf("%s: %d of %d: a path of %d doesn't lead to its root", m.what, x.i, x.n, x.steps)
			}
			for _, n := range []int{0, 1, x.steps - 1, x.steps + 1, 62, 63, 64, 70} {
				if n != x.steps && merkle.Check(m.v, root, x.i, x.n, d, long[:n]...) {
					t.Errorf("%s: %d of %d: a path of %d", m.what, x.i, x.n, n)
				}
			}
		}
	}
}

func TestANilVaultsDigestsAreNoughts(t *testing.T) { // P14.1
	a, b := digest{1}, digest{2}
	none := digest{}
	if merkle.Leaf(nil, []byte("a")) != none || merkle.Root(nil) != none || merkle.Root(nil, a, b) != none || merkle.Root(nil, a, b, a) != none {
		t.Error("a digest")
	}
	if path := merkle.Path(nil, 2, a, b, a, b); !slices.Equal(path, []digest{b, none}) {
		t.Errorf("a path: %x", path)
	}
	if !merkle.Check(nil, none, 1, 2, a, b) || merkle.Check(nil, a, 1, 2, a, b) || merkle.Check(nil, none, 1, 2, a) || merkle.Check(nil, none, 2, 2, a, b) {
		t.Error("a check")
	}
}

func TestTwoWorldsAnswerTheSame(t *testing.T) { // P14.1: what is asked of both in one order
	leaves := anyDigests(rand.New(rand.NewSource(6)), 21)
	one, other := vaults()[1], vaults()[1]
	for i := range leaves {
		p, q := merkle.Path(one.v, i, leaves...), merkle.Path(other.v, i, leaves...)
		if !slices.Equal(p, q) || merkle.Root(one.v, leaves[i:]...) != merkle.Root(other.v, leaves[i:]...) {
			t.Fatalf("%d", i)
		}
	}
}
