package ghash_test

import (
	"math/rand"
	"testing"

	"coffret/aes"
	"coffret/ghash"
)

// edges: nothing, one, the highest power, all bits, and some others.
func edges() []aes.Block {
	list := []aes.Block{{}, power(0), power(1), power(7), power(63), power(64), power(120), power(127), ones()}
	for seed := range int64(8) {
		list = append(list, madeBlock(seed))
	}
	return list
}

// inAnyOrder: two elements have one product.
func inAnyOrder(t *testing.T, a, b aes.Block) {
	t.Helper()
	if one, other := ghash.Times(a, b), ghash.Times(b, a); one != other {
		t.Errorf("%x times %x: %x, or %x", a, b, one, other)
	}
}

// inAnyWay: three elements have one product, whichever two are multiplied first.
func inAnyWay(t *testing.T, a, b, c aes.Block) {
	t.Helper()
	ahead, behind := ghash.Times(ghash.Times(a, b), c), ghash.Times(a, ghash.Times(b, c))
	if ahead != behind {
		t.Errorf("%x times %x times %x: %x, or %x", a, b, c, ahead, behind)
	}
}

func TestOrderOfTwo(t *testing.T) { // P7.2
	for i := range 128 {
		for j := range i {
			inAnyOrder(t, power(i), power(j))
		}
	}
	for _, a := range edges() {
		for _, b := range edges() {
			inAnyOrder(t, a, b)
		}
	}
	for seed := range int64(5000) {
		inAnyOrder(t, madeBlock(seed), madeBlock(-seed-1))
	}
}

func TestThreePutTogether(t *testing.T) { // P7.2
	for _, a := range edges() {
		for _, b := range edges() {
			for _, c := range edges() {
				inAnyWay(t, a, b, c)
			}
		}
	}
	for seed := range int64(5000) {
		inAnyWay(t, madeBlock(seed), madeBlock(seed+10000), madeBlock(seed+20000))
	}
}

// putTogether: the product of all of a list, of parts that are cut anyhow.
func putTogether(rnd *rand.Rand, list []aes.Block) aes.Block {
	if len(list) == 1 {
		return list[0]
	}
	cut := 1 + rnd.Intn(len(list)-1)
	return ghash.Times(putTogether(rnd, list[:cut]), putTogether(rnd, list[cut:]))
}

func TestManyPutTogetherAnyhow(t *testing.T) { // P7.2
	rnd := rand.New(rand.NewSource(1))
	for range 500 {
		list := make([]aes.Block, 1+rnd.Intn(12))
		want := power(0)
		for i := range list {
			list[i] = madeBlock(rnd.Int63())
			want = wantedTimes(want, list[i])
		}
		for range 5 {
			rnd.Shuffle(len(list), func(i, j int) { list[i], list[j] = list[j], list[i] })
			if got := putTogether(rnd, list); got != want {
				t.Errorf("%x: %x, not %x", list, got, want)
			}
		}
	}
}

func TestOne(t *testing.T) { // P7.2
	one := aes.Block{0x80}
	list := edges()
	for bit := range 128 {
		list = append(list, power(bit), sum(ones(), power(bit)))
	}
	for seed := range int64(2000) {
		list = append(list, madeBlock(seed))
	}
	for _, b := range list {
		if ahead, behind := ghash.Times(one, b), ghash.Times(b, one); ahead != b || behind != b {
			t.Errorf("one and %x: %x, and %x", b, ahead, behind)
		}
	}
}

func TestNoOtherIsOne(t *testing.T) { // P7.2
	b := madeBlock(1)
	for bit := range 128 {
		other := sum(power(0), power(bit))
		if got := ghash.Times(other, b); got == b {
			t.Errorf("%x times %x is %x", other, b, got)
		}
		if bit > 0 && ghash.Times(power(bit), b) == b {
			t.Errorf("%x is one, too", power(bit))
		}
	}
}
