package merkle_test

import (
	"bytes"
	"crypto/sha256"
	"encoding/hex"
	"math"
	"math/bits"
	"math/rand/v2"
	"slices"
	"testing"

	"shroud/api"
	"shroud/merkle"
	"shroud/sha"
)

// most is how many texts Shows and Grow may be told of.
const most = 1 << 20

// random is a source with a fixed seed, so that each run tests the same.
func random() *rand.Rand { return rand.New(rand.NewPCG(11, 1<<20)) }

// anyBytes are bytes at random.
func anyBytes(r *rand.Rand, many int) []byte {
	b := make([]byte, many)
	for i := range b {
		b[i] = byte(r.Uint32())
	}
	return b
}

// anyTexts are so many texts at random, empty ones and equal ones among them.
func anyTexts(r *rand.Rand, many int) [][]byte {
	texts := make([][]byte, many)
	for i := range texts {
		texts[i] = anyBytes(r, r.IntN(1+r.IntN(80)))
	}
	return texts
}

// anyDigests are so many digests at random.
func anyDigests(r *rand.Rand, many int) []api.Digest {
	l := make([]api.Digest, many)
	for i := range l {
		l[i] = api.Digest(anyBytes(r, 32))
	}
	return l
}

// numbered are so many texts of which no two are equal.
func numbered(many int) [][]byte {
	texts := make([][]byte, many)
	for i := range texts {
		texts[i] = []byte{byte(i >> 8), byte(i)}
	}
	return texts
}

// sizes are numbers of texts: all small ones, and those just below, at and just above powers of two.
func sizes() []int {
	all := []int{}
	for many := range 36 {
		all = append(all, many)
	}
	for power := 64; power <= 512; power *= 2 {
		all = append(all, power-1, power, power+1)
	}
	return append(all, 100, 300)
}

// slowLeaf is the leaf digest of a text.
func slowLeaf(text []byte) api.Digest { return sha256.Sum256(append([]byte{0}, text...)) }

// slowJoin is the digest of a byte 1 and two digests.
func slowJoin(a, b api.Digest) api.Digest {
	return sha256.Sum256(append(append([]byte{1}, a[:]...), b[:]...))
}

// levels are the digests of the leaves, of the pairs of these, and so on up to the root; one that has no neighbor goes up
// as it is.
func levels(texts [][]byte) [][]api.Digest {
	level := []api.Digest{}
	for _, text := range texts {
		level = append(level, slowLeaf(text))
	}
	all := [][]api.Digest{level}
	for len(level) > 1 {
		above := []api.Digest{}
		for i := 0; i < len(level); i += 2 {
			if i+1 < len(level) {
				above = append(above, slowJoin(level[i], level[i+1]))
			} else {
				above = append(above, level[i])
			}
		}
		level = above
		all = append(all, level)
	}
	return all
}

// slowRoot is the digest at the top of the levels.
func slowRoot(texts [][]byte) api.Digest {
	if len(texts) == 0 {
		return sha256.Sum256(nil)
	}
	all := levels(texts)
	return all[len(all)-1][0]
}

// slowProof is the neighbors, level by level.
func slowProof(texts [][]byte, at int) []api.Digest {
	proof := []api.Digest{}
	for _, level := range levels(texts) {
		if beside := at ^ 1; beside < len(level) {
			proof = append(proof, level[beside])
		}
		at /= 2
	}
	return proof
}

// slowShows goes up level by level, by the first and the last index of each level that are on the way.
func slowShows(root api.Digest, text []byte, at, many int, proof []api.Digest) bool {
	if at < 0 || at >= many || many > most {
		return false
	}
	shown, last := slowLeaf(text), many-1
	for ; last > 0; at, last = at/2, last/2 {
		if at == last && at%2 == 0 {
			continue // no neighbor on this level
		}
		if len(proof) == 0 {
			return false
		}
		if at%2 == 1 {
			shown = slowJoin(proof[0], shown)
		} else {
			shown = slowJoin(shown, proof[0])
		}
		proof = proof[1:]
	}
	return len(proof) == 0 && shown == root
}

// runs are the lengths of the runs into which so many texts are divided.
func runs(many int) []int {
	l := []int{}
	for power := 1 << 30; power > 0; power /= 2 {
		if many >= power {
			l = append(l, power)
			many -= power
		}
	}
	return l
}

// slowPeaks are the roots of the runs.
func slowPeaks(texts [][]byte) []api.Digest {
	l := []api.Digest{}
	for _, run := range runs(len(texts)) {
		l = append(l, slowRoot(texts[:run]))
		texts = texts[run:]
	}
	return l
}

// slowGrow lays a run of one text behind the others, and puts equal ones together for as long as there are any.
func slowGrow(peaks []api.Digest, many int, text []byte) ([]api.Digest, api.Digest) {
	l, lengths := append(slices.Clone(peaks), slowLeaf(text)), append(runs(many), 1)
	for n := len(l); n > 1 && lengths[n-1] == lengths[n-2]; n = len(l) {
		l = append(slices.Clone(l[:n-2]), slowJoin(l[n-2], l[n-1]))
		lengths = append(slices.Clone(lengths[:n-2]), 2*lengths[n-1])
	}
	root := l[len(l)-1]
	for i := len(l) - 2; i >= 0; i-- {
		root = slowJoin(l[i], root)
	}
	return l, root
}

// checkRoot takes the root of the levels from Root.
func checkRoot(t *testing.T, texts [][]byte) {
	t.Helper()
	if got, want := merkle.Root(texts), slowRoot(texts); got != want {
		t.Errorf("Root of %d texts: %x, not %x", len(texts), got, want)
	}
}

// checkProof takes the neighbors of the levels from Proof.
func checkProof(t *testing.T, texts [][]byte, at int) {
	t.Helper()
	got, e := merkle.Proof(texts, at)
	if want := slowProof(texts, at); e != api.OK || !slices.Equal(got, want) {
		t.Errorf("Proof of %d of %d texts: %x, %d, not %x", at, len(texts), got, e, want)
	}
}

// checkShows takes from Shows what it has to tell, and returns it.
func checkShows(t *testing.T, root api.Digest, text []byte, at, many int, proof []api.Digest) bool {
	t.Helper()
	want := slowShows(root, text, at, many, proof)
	if got := merkle.Shows(root, text, at, many, proof); got != want {
		t.Errorf("Shows of %d of %d by %d digests: %t", at, many, len(proof), got)
	}
	return want
}

// checkRefused takes false from Shows.
func checkRefused(t *testing.T, root api.Digest, text []byte, at, many int, proof []api.Digest) {
	t.Helper()
	if merkle.Shows(root, text, at, many, proof) {
		t.Errorf("Shows of %d of %d by %d digests: true", at, many, len(proof))
	}
}

// checkGrow takes peaks and a root from Grow.
func checkGrow(t *testing.T, peaks []api.Digest, many int, text []byte) {
	t.Helper()
	got, root := merkle.Grow(peaks, many, text)
	want, wantRoot := slowGrow(peaks, many, text)
	if !slices.Equal(got, want) || root != wantRoot {
		t.Errorf("Grow of %d: %x, %x, not %x, %x", many, got, root, want, wantRoot)
	}
}

// checkGrowRefused takes nothing from Grow.
func checkGrowRefused(t *testing.T, peaks []api.Digest, many int) {
	t.Helper()
	if got, root := merkle.Grow(peaks, many, []byte{1}); len(got) != 0 || root != (api.Digest{}) {
		t.Errorf("Grow of %d with %d peaks: %x, %x", many, len(peaks), got, root)
	}
}

// The example of the chapter, with its proofs and peaks.
func TestExample(t *testing.T) {
	leaf := func(text string) api.Digest { return sha.Of([]byte("\x00" + text)) }
	join := func(a, b api.Digest) api.Digest { return sha.Of(slices.Concat([]byte{1}, a[:], b[:])) }
	texts := [][]byte{[]byte("a"), {}, []byte("bcd")}
	a, b, c := leaf("a"), leaf(""), leaf("bcd")
	root := join(join(a, b), c)
	if got := merkle.Root(texts); got != root {
		t.Errorf("Root: %x, not %x", got, root)
	}
	for at, want := range [][]api.Digest{{b, c}, {a, c}, {join(a, b)}} {
		got, e := merkle.Proof(texts, at)
		if e != api.OK || !slices.Equal(got, want) {
			t.Errorf("Proof of %d: %x, %d, not %x", at, got, e, want)
		}
		if !merkle.Shows(root, texts[at], at, 3, want) {
			t.Errorf("Shows of %d: false", at)
		}
	}
	peaks, got := merkle.Grow([]api.Digest{join(a, b)}, 2, texts[2])
	if !slices.Equal(peaks, []api.Digest{join(a, b), c}) || got != root {
		t.Errorf("Grow: %x, %x", peaks, got)
	}
}

// P11.1: the roots of the texts that RFC 6962's implementations publish, which are trees of this kind.
func TestKnownRoots(t *testing.T) {
	texts := [][]byte{}
	for _, text := range []string{"", "00", "10", "2021", "3031", "40414243", "5051525354555657", "606162636465666768696a6b6c6d6e6f"} {
		b, _ := hex.DecodeString(text)
		texts = append(texts, b)
	}
	for many, want := range []string{
		"e3b0c44298fc1c149afbf4c8996fb92427ae41e4649b934ca495991b7852b855",
		"6e340b9cffb37a989ca544e6bb780a2c78901d3fb33738768511a30617afa01d",
		"fac54203e7cc696cf0dfcb42c92a1d9dbaf70ad9e621f4bd8d98662f00e3c125",
		"aeb6bcfe274b70a14fb067a5e5578264db0fa9b51af5e0ba159158f329e06e77",
		"d37ee418976dd95753c1c73862b9398fa2a2cf9b4ff0fdfe8b30cd95209614b7",
		"4e3bbb1f7b478dcfe71fb631631519a3bca12c9aefca1612bfce4c13a86264d4",
		"76e67dadbcdf1e10e1b74ddc608abd2f98dfb16fbce75277b5232a127f2087ef",
		"ddb89be403809e325750d3d263cd78929c2942b7942a34b77e122c9594a74c8c",
		"5dc9da79a70659a9ad559cb701ded9a2ab9d823aad2f4960cfe370eff4604328",
	} {
		if got := sha.Hex(merkle.Root(texts[:many])); got != want {
			t.Errorf("Root of %d texts: %s, not %s", many, got, want)
		}
	}
}

// P11.1: no texts, one, two, three, and others, of the same bytes and of different ones.
func TestRoot(t *testing.T) {
	r := random()
	for _, many := range sizes() {
		checkRoot(t, make([][]byte, many))
		checkRoot(t, numbered(many))
		checkRoot(t, anyTexts(r, many))
	}
	for range 300 {
		checkRoot(t, anyTexts(r, r.IntN(300)))
	}
	for _, length := range []int{54, 55, 63, 64, 100000} {
		checkRoot(t, [][]byte{anyBytes(r, length)})
		checkRoot(t, [][]byte{anyBytes(r, length), nil, anyBytes(r, length)})
	}
}

// P11.1: a root tells the texts, their order, their number, and that there is no text from an empty one.
func TestRootsOfDifferentSequences(t *testing.T) {
	texts := [][]byte{nil, {0}, {1}, {0, 0}}
	sequences := [][][]byte{{}}
	for from, many := 0, 0; many < 5; many++ {
		to := len(sequences)
		for _, shorter := range sequences[from:to] {
			for _, text := range texts {
				sequences = append(sequences, append(slices.Clone(shorter), text))
			}
		}
		from = to
	}
	seen := map[api.Digest][][]byte{}
	for _, sequence := range sequences {
		root := merkle.Root(sequence)
		if other, ok := seen[root]; ok {
			t.Errorf("%x and %x have the same root", sequence, other)
		}
		seen[root] = sequence
	}
	if len(seen) != 1+4+16+64+256+1024 {
		t.Errorf("%d different roots", len(seen))
	}
}

// P11.1: a text is not taken for the two digests of a tree, nor for a leaf.
func TestRootOfDigests(t *testing.T) {
	a, b := slowLeaf([]byte("a")), slowLeaf([]byte("b"))
	root := merkle.Root([][]byte{[]byte("a"), []byte("b")})
	both := slices.Concat(a[:], b[:])
	for _, text := range [][]byte{both, append([]byte{0}, both...), append([]byte{1}, both...), root[:]} {
		if merkle.Root([][]byte{text}) == root {
			t.Errorf("%x has the same root", text)
		}
	}
	if merkle.Root([][]byte{a[:], b[:]}) == root {
		t.Error("the leaf digests have the same root")
	}
}

// P11.1: each index of sequences of each size.
func TestProof(t *testing.T) {
	for _, many := range sizes() {
		texts := numbered(many)
		for at := range texts {
			checkProof(t, texts, at)
		}
	}
	r := random()
	for range 300 {
		many := 1 + r.IntN(300)
		checkProof(t, anyTexts(r, many), r.IntN(many))
	}
}

// P11.1: no index of the sequence.
func TestProofOfNoIndex(t *testing.T) {
	for _, many := range sizes() {
		texts := numbered(many)
		for _, at := range []int{-1, -2, many, many + 1, 2*many + 1, math.MaxInt, math.MinInt, math.MaxInt32 + 1, 1 << 32} {
			if proof, e := merkle.Proof(texts, at); len(proof) != 0 || e != api.ErrRange {
				t.Errorf("Proof of %d of %d texts: %x, %d", at, many, proof, e)
			}
		}
	}
	if proof, e := merkle.Proof(nil, 0); len(proof) != 0 || e != api.ErrRange {
		t.Errorf("Proof of no texts: %x, %d", proof, e)
	}
}

// P11.1 and P11.3: Shows accepts each result of Proof.
func TestShowsProofs(t *testing.T) {
	r := random()
	for _, many := range sizes() {
		texts := anyTexts(r, many)
		root := merkle.Root(texts)
		for at := range texts {
			proof, e := merkle.Proof(texts, at)
			if e != api.OK || !merkle.Shows(root, texts[at], at, many, proof) {
				t.Errorf("the proof of %d of %d texts shows nothing: %d", at, many, e)
			}
		}
	}
}

// P11.1: each proof under each index and number of texts, also those that are none.
func TestShowsOfOtherPlaces(t *testing.T) {
	for many := 1; many <= 20; many++ {
		texts := numbered(many)
		root := slowRoot(texts)
		for of := range texts {
			proof := slowProof(texts, of)
			for at := -2; at <= many+2; at++ {
				for told := -2; told <= 35; told++ {
					accepted := checkShows(t, root, texts[of], at, told, proof)
					if accepted && told == many && at != of {
						t.Errorf("the text %d of %d is shown at %d", of, many, at)
					}
				}
			}
		}
	}
}

// P11.1: an index below 0, at many or above it, and many below 0, 0 or above 2^20, with proofs that are right otherwise.
func TestShowsOfNoIndex(t *testing.T) {
	texts := numbered(5)
	root := slowRoot(texts)
	for of, text := range texts {
		proof := slowProof(texts, of)
		for _, at := range []int{-1, of - 8, 5, 6, 7, of + 8, of + 16, of + 1<<32, math.MaxInt, math.MinInt, math.MinInt + of} {
			checkRefused(t, root, text, at, 5, proof)
		}
		for _, many := range []int{-1, -5, 0, math.MinInt, math.MinInt + 5, most + 1, most + 5, 5 + 1<<32, math.MaxInt} {
			checkRefused(t, root, text, of, many, proof)
		}
	}
	leaf := slowLeaf(nil)
	for _, many := range []int{-1, 0, math.MinInt} {
		for _, at := range []int{-1, 0, 1, many - 1, many, many + 1} {
			checkRefused(t, leaf, nil, at, many, nil)
			checkRefused(t, slowRoot(nil), nil, at, many, nil)
		}
	}
}

// combined is the root that a proof yields, of the length that is required.
func combined(text []byte, at, many int, proof []api.Digest) api.Digest {
	root, last := slowLeaf(text), many-1
	for ; last > 0; at, last = at/2, last/2 {
		switch {
		case at%2 == 1:
			root, proof = slowJoin(proof[0], root), proof[1:]
		case at < last:
			root, proof = slowJoin(root, proof[0]), proof[1:]
		}
	}
	return root
}

// needed is how many digests a proof has: one on each level on which there is a neighbor.
func needed(at, many int) int {
	count := 0
	for last := many - 1; last > 0; at, last = at/2, last/2 {
		if at%2 == 1 || at < last {
			count++
		}
	}
	return count
}

// P11.1: up to 2^20 texts, and no more, at their first, their last and other indices.
func TestShowsOfManyTexts(t *testing.T) {
	r := random()
	manies := []int{most, most - 1, most/2 + 1, most / 2, most + 1, most + 2, 2 * most, 2*most + 1, 1 << 40, math.MaxInt}
	for range 50 {
		manies = append(manies, 1+r.IntN(most), most+1+r.IntN(most))
	}
	for _, many := range manies {
		indices := []int{0, 1, many / 2, many/2 - 1, many - 2, many - 1}
		for range 10 {
			indices = append(indices, r.IntN(many))
		}
		for _, at := range indices {
			text := anyBytes(r, 3)
			proof := anyDigests(r, needed(at, many))
			root := combined(text, at, many, proof)
			if got := merkle.Shows(root, text, at, many, proof); got != (many <= most) {
				t.Errorf("Shows of %d of %d: %t", at, many, got)
			}
			checkRefused(t, root, text, at, many, append(slices.Clone(proof), root))
			if len(proof) > 0 {
				checkRefused(t, root, text, at, many, proof[1:])
				checkRefused(t, root, text, at, many, proof[:len(proof)-1])
			}
		}
	}
}

// P11.1: a proof that lacks a digest, or has one more, at each place.
func TestShowsOfOtherLengths(t *testing.T) {
	for _, many := range []int{1, 2, 3, 4, 5, 6, 7, 8, 9, 15, 16, 17, 33} {
		texts := numbered(many)
		root := slowRoot(texts)
		for at, text := range texts {
			proof := slowProof(texts, at)
			for place := range proof {
				checkRefused(t, root, text, at, many, slices.Delete(slices.Clone(proof), place, place+1))
				checkRefused(t, root, text, at, many, proof[place+1:])
				checkRefused(t, root, text, at, many, proof[:place])
			}
			for place := range len(proof) + 1 {
				for _, extra := range []api.Digest{{}, root, slowLeaf(text), slowRoot(nil)} {
					checkRefused(t, root, text, at, many, slices.Insert(slices.Clone(proof), place, extra))
				}
				if place < len(proof) {
					checkRefused(t, root, text, at, many, slices.Insert(slices.Clone(proof), place, proof[place]))
				}
			}
			checkRefused(t, root, text, at, many, append(slices.Clone(proof), make([]api.Digest, 100000)...))
		}
	}
}

// P11.1: a proof that lacks digests shows nothing, whatever would be taken in their place.
func TestShowsOfShortProofs(t *testing.T) {
	r := random()
	for many := 2; many <= 33; many++ {
		for at := range many {
			text, length := anyBytes(r, 3), needed(at, many)
			proof := anyDigests(r, length)
			for missing := 1; missing <= length; missing++ {
				for _, cut := range [][]api.Digest{proof[missing:], proof[:length-missing]} {
					for _, filler := range []api.Digest{{}, slowLeaf(text)} {
						filling := slices.Repeat([]api.Digest{filler}, missing)
						for _, full := range [][]api.Digest{slices.Concat(filling, cut), slices.Concat(cut, filling)} {
							checkRefused(t, combined(text, at, many, full), text, at, many, cut)
						}
					}
					for _, root := range []api.Digest{{}, slowLeaf(text), slowRoot(nil), proof[0], combined(text, at, many, proof)} {
						checkRefused(t, root, text, at, many, cut)
					}
					// Without the way on from there, the top of a part of the tree is no root.
					for size := 1; size < many; size *= 2 {
						if needed(at%size, size) == len(cut) {
							checkRefused(t, combined(text, at%size, size, cut), text, at, many, cut)
						}
					}
					zero := api.Digest{}
					for _, beside := range slices.Backward(proof) {
						checkRefused(t, slowJoin(zero, beside), text, at, many, cut)
						checkRefused(t, slowJoin(beside, zero), text, at, many, cut)
					}
				}
			}
		}
	}
}

// P11.1: a proof of which a bit is changed, at each digest, or of which two digests are exchanged.
func TestShowsOfChangedProofs(t *testing.T) {
	r := random()
	for _, many := range []int{2, 3, 4, 5, 7, 8, 9, 16, 17} {
		texts := numbered(many)
		root := slowRoot(texts)
		for at, text := range texts {
			proof := slowProof(texts, at)
			for place := range proof {
				for byteAt := range 32 {
					changed := slices.Clone(proof)
					changed[place][byteAt] ^= 1 << r.IntN(8)
					checkRefused(t, root, text, at, many, changed)
				}
				for other := range place {
					changed := slices.Clone(proof)
					changed[place], changed[other] = changed[other], changed[place]
					checkRefused(t, root, text, at, many, changed)
				}
			}
		}
	}
}

// P11.1: another text, each other root of a bit changed, and the roots of other sequences.
func TestShowsOfOtherTextsAndRoots(t *testing.T) {
	for _, many := range []int{1, 2, 3, 4, 5, 8, 9, 17} {
		texts := numbered(many)
		root := slowRoot(texts)
		for at, text := range texts {
			proof := slowProof(texts, at)
			leaf := slowLeaf(text)
			others := [][]byte{nil, {0}, text[:1], text[1:], append(text[:2:2], 0), append([]byte{0}, text...), leaf[:], root[:]}
			others = append(others, numbered(many + 1)[(at+1)%(many+1)])
			for _, other := range others {
				checkRefused(t, root, other, at, many, proof)
			}
			for place := range 32 {
				changed := root
				changed[place] ^= 1 << (place % 8)
				checkRefused(t, changed, text, at, many, proof)
			}
			for _, other := range []api.Digest{{}, slowRoot(nil), slowRoot(numbered(many + 1))} {
				checkRefused(t, other, text, at, many, proof)
			}
		}
	}
}

// P11.3: whichever digests of the tree a proof consists of, a text is shown at no index but its own. Texts that look like
// what the inner digests are made of are among them.
func TestShowsNothingElse(t *testing.T) {
	for many := 1; many <= 5; many++ {
		texts := numbered(many)
		root := slowRoot(texts)
		candidates, parts := slices.Clone(texts), []api.Digest{}
		for _, level := range levels(texts) {
			for i, d := range level {
				if !slices.Contains(parts, d) {
					parts = append(parts, d)
				}
				if i%2 == 1 {
					both := slices.Concat(level[i-1][:], d[:])
					candidates = append(candidates, both, append([]byte{1}, both...))
				}
			}
		}
		accepted := 0
		proofs := [][]api.Digest{nil}
		for from, length := 0, 0; length <= bits.Len(uint(many)); length++ {
			to := len(proofs)
			for _, proof := range proofs[from:to] {
				for of, text := range candidates {
					for at := range many {
						if !merkle.Shows(root, text, at, many, proof) {
							continue
						}
						accepted++
						if of != at {
							t.Errorf("candidate %d is shown at %d of %d", of, at, many)
						}
					}
				}
				if length < bits.Len(uint(many)) {
					for _, part := range parts {
						proofs = append(proofs, append(slices.Clone(proof), part))
					}
				}
			}
			from = to
		}
		if accepted != many {
			t.Errorf("%d texts: %d proofs are accepted", many, accepted)
		}
	}
}

// P11.3: a text that is in the sequence twice is shown at both indices.
func TestShowsOfEqualTexts(t *testing.T) {
	for many := 1; many <= 40; many++ {
		texts := make([][]byte, many)
		root := merkle.Root(texts)
		for at := range many {
			proof, _ := merkle.Proof(texts, at)
			for other := range many {
				checkShows(t, root, nil, other, many, proof)
			}
			if !merkle.Shows(root, nil, at, many, proof) {
				t.Errorf("the text %d of %d is not shown", at, many)
			}
		}
	}
}

// P11.1: Root and Proof take more texts than Shows is told of. Equal texts make equal trees, so that their roots are known.
func TestMoreTexts(t *testing.T) {
	if testing.Short() {
		t.Skip("takes some seconds")
	}
	texts := make([][]byte, most+1)
	trees := []api.Digest{slowLeaf(nil)}
	for range 20 {
		last := trees[len(trees)-1]
		trees = append(trees, slowJoin(last, last))
	}
	root := slowJoin(trees[20], trees[0])
	if got := merkle.Root(texts); got != root {
		t.Errorf("Root: %x, not %x", got, root)
	}
	for at, want := range map[int][]api.Digest{
		0:    append(slices.Clone(trees[:20]), trees[0]),
		most: {trees[20]},
	} {
		got, e := merkle.Proof(texts, at)
		if e != api.OK || !slices.Equal(got, want) {
			t.Errorf("Proof of %d: %x, %d", at, got, e)
		}
		checkRefused(t, root, nil, at, most+1, got)
	}
}

// P11.2: from no peaks on, text by text.
func TestGrow(t *testing.T) {
	r := random()
	for _, texts := range [][][]byte{numbered(600), anyTexts(r, 600), make([][]byte, 40)} {
		peaks := []api.Digest(nil)
		for many, text := range texts {
			root := api.Digest{}
			checkGrow(t, peaks, many, text)
			peaks, root = merkle.Grow(peaks, many, text)
			if want := slowPeaks(texts[:many+1]); !slices.Equal(peaks, want) {
				t.Errorf("%d texts: the peaks %x, not %x", many+1, peaks, want)
			}
			if want := merkle.Root(texts[:many+1]); root != want || root != slowRoot(texts[:many+1]) {
				t.Errorf("%d texts: the root %x, not %x", many+1, root, want)
			}
		}
	}
}

// P11.2: numbers of texts up to 2^20, whose peaks may be any digests.
func TestGrowOfManyTexts(t *testing.T) {
	r := random()
	manies := []int{most, most - 1, most - 2, most / 2, most/2 - 1, most/2 + 1, 0x55555, 0xaaaaa}
	for power := 1; power <= most; power *= 2 {
		manies = append(manies, power, power-1, most-power)
	}
	for range 500 {
		manies = append(manies, r.IntN(most+1))
	}
	for _, many := range manies {
		checkGrow(t, anyDigests(r, len(runs(many))), many, anyBytes(r, r.IntN(70)))
	}
}

// P11.2: many below 0 or above 2^20, with the numbers of peaks that their bits would tell, and others.
func TestGrowOfNoNumber(t *testing.T) {
	r := random()
	for _, many := range []int{-1, -2, -3, -most, math.MinInt, math.MinInt + 1, most + 1, most + 2, 2*most - 1, 2 * most, 3 * most, 1 << 32, 1<<32 + 3, math.MaxInt} {
		for count := range 70 {
			checkGrowRefused(t, anyDigests(r, count), many)
		}
	}
}

// P11.2: too few peaks and too many.
func TestGrowOfOtherPeaks(t *testing.T) {
	r := random()
	manies := []int{most, most - 1, most / 2, 0x55555}
	for many := range 70 {
		manies = append(manies, many)
	}
	for _, many := range manies {
		for count := range 70 {
			if peaks := anyDigests(r, count); count == len(runs(many)) {
				checkGrow(t, peaks, many, nil)
			} else {
				checkGrowRefused(t, peaks, many)
			}
		}
	}
}

// guarded is these values with others beyond their length, and all of that memory.
func guarded[V any](l []V, beyond V) (part, whole []V) {
	whole = append(slices.Clone(l), slices.Repeat([]V{beyond}, 100)...)
	return whole[:len(l)], whole
}

// guardedTexts is texts, each with other bytes beyond its length and with other texts beyond their number, and a function
// that tells whether all of that is still there, at the same places.
func guardedTexts(texts [][]byte) (part [][]byte, same func() bool) {
	sequence, wholes := [][]byte{}, [][]byte{}
	for _, text := range texts {
		inner, whole := guarded(text, 0xee)
		sequence, wholes = append(sequence, inner), append(wholes, whole)
	}
	part, all := guarded(sequence, []byte("beyond"))
	before, contents := slices.Clone(all), [][]byte{}
	for _, whole := range wholes {
		contents = append(contents, slices.Clone(whole))
	}
	return part, func() bool {
		for i := range all {
			if len(all[i]) != len(before[i]) || cap(all[i]) != cap(before[i]) || &all[i][:1][0] != &before[i][:1][0] {
				return false
			}
		}
		return slices.EqualFunc(wholes, contents, bytes.Equal) && string(before[len(before)-1]) == "beyond"
	}
}

// R3: neither the texts are modified nor their sequence, nor the memory beyond the length of any of them.
func TestTextsAsArguments(t *testing.T) {
	r := random()
	for many := range 20 {
		texts := anyTexts(r, many)
		part, same := guardedTexts(texts)
		if merkle.Root(part) != slowRoot(texts) || !same() {
			t.Errorf("Root of %d texts", many)
		}
		for at := -1; at <= many; at++ {
			proof, e := merkle.Proof(part, at)
			if e == api.OK && !slices.Equal(proof, slowProof(texts, at)) || !same() {
				t.Errorf("Proof of %d of %d texts", at, many)
			}
		}
	}
}

// R3: Shows modifies neither the text nor the proof, nor the memory beyond them.
func TestProofsAsArguments(t *testing.T) {
	r := random()
	for many := 1; many < 20; many++ {
		texts := anyTexts(r, many)
		root := slowRoot(texts)
		for at := range texts {
			text, wholeText := guarded(texts[at], 0xee)
			proof, wholeProof := guarded(slowProof(texts, at), api.Digest{9})
			beforeText, beforeProof := slices.Clone(wholeText), slices.Clone(wholeProof)
			if !merkle.Shows(root, text, at, many, proof) {
				t.Errorf("Shows of %d of %d: false", at, many)
			}
			checkRefused(t, root, text, at, many, wholeProof)
			checkRefused(t, api.Digest{}, text, at, many, proof)
			if !slices.Equal(wholeText, beforeText) || !slices.Equal(wholeProof, beforeProof) {
				t.Errorf("Shows of %d of %d modifies its arguments", at, many)
			}
		}
	}
}

// R3: Grow modifies neither the peaks nor the text, nor the memory beyond them, also if that is where new peaks would fit.
func TestPeaksAsArguments(t *testing.T) {
	r := random()
	for many := range 70 {
		for _, beside := range []int{0, 1, -1} {
			count := max(len(runs(many))+beside, 0)
			peaks, wholePeaks := guarded(anyDigests(r, count), api.Digest{9})
			text, wholeText := guarded(anyBytes(r, 5), 0xee)
			beforePeaks, beforeText := slices.Clone(wholePeaks), slices.Clone(wholeText)
			grown, _ := merkle.Grow(peaks, many, text)
			for i := range grown {
				grown[i] = api.Digest{77}
			}
			if !slices.Equal(wholePeaks, beforePeaks) || !slices.Equal(wholeText, beforeText) {
				t.Errorf("Grow of %d with %d peaks modifies its arguments", many, count)
			}
		}
	}
}

// R3: the results stay as they are, whatever is laid over the arguments or over other results.
func TestResultsShareNothing(t *testing.T) {
	r := random()
	for many := range 40 {
		texts := anyTexts(r, many+1)
		peaks := slowPeaks(texts[:many])
		grown, _ := merkle.Grow(peaks, many, texts[many])
		again, _ := merkle.Grow(peaks, many, texts[many])
		proof, _ := merkle.Proof(texts, many/2)
		other, _ := merkle.Proof(texts, many/2)
		wantPeaks, wantProof := slowPeaks(texts), slowProof(texts, many/2)
		clear(peaks)
		clear(again[:cap(again)])
		clear(other[:cap(other)])
		for _, text := range texts {
			clear(text)
		}
		clear(texts)
		if !slices.Equal(grown, wantPeaks) || !slices.Equal(proof, wantProof) {
			t.Errorf("%d texts: %x and %x", many, grown, proof)
		}
	}
}

// R4: nil and empty slices are equivalent.
func TestNilIsEmpty(t *testing.T) {
	if merkle.Root(nil) != merkle.Root([][]byte{}) {
		t.Error("Root of no texts")
	}
	if merkle.Root([][]byte{nil, {1}, {}}) != merkle.Root([][]byte{{}, {1}, nil}) {
		t.Error("Root of empty texts")
	}
	leaf := slowLeaf(nil)
	for _, text := range [][]byte{nil, {}} {
		for _, proof := range [][]api.Digest{nil, {}} {
			if !merkle.Shows(leaf, text, 0, 1, proof) {
				t.Error("Shows of an empty text")
			}
			if peaks, root := merkle.Grow(proof, 0, text); !slices.Equal(peaks, []api.Digest{leaf}) || root != leaf {
				t.Errorf("Grow: %x, %x", peaks, root)
			}
		}
	}
}

// R6: the same arguments have the same results, whatever was called before, or is called at the same time.
func TestRepeated(t *testing.T) {
	texts := anyTexts(random(), 50)
	root, peaks, proof := slowRoot(texts), slowPeaks(texts[:49]), slowProof(texts, 20)
	done := make(chan bool)
	for range 4 {
		go func() {
			for range 20 {
				got, e := merkle.Proof(texts, 20)
				_, grown := merkle.Grow(peaks, 49, texts[49])
				shown := merkle.Shows(root, texts[20], 20, 50, proof)
				if merkle.Root(texts) != root || !slices.Equal(got, proof) || e != api.OK || grown != root || !shown {
					t.Error("another result")
				}
			}
			done <- true
		}()
	}
	for range 4 {
		<-done
	}
}
