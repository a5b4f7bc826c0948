package sha_test

import (
	"bytes"
	"crypto/sha256"
	"math/big"
	"math/rand/v2"
	"slices"
	"strings"
	"testing"

	"shroud/api"
	"shroud/sha"
)

// random is a source with a fixed seed, so that each run tests the same.
func random() *rand.Rand { return rand.New(rand.NewPCG(10, 256)) }

// anyBytes are bytes at random.
func anyBytes(r *rand.Rand, many int) []byte {
	b := make([]byte, many)
	for i := range b {
		b[i] = byte(r.Uint32())
	}
	return b
}

// anyDigest is a digest at random.
func anyDigest(r *rand.Rand) api.Digest { return api.Digest(anyBytes(r, 32)) }

// edges are the lengths at which another block begins, or the number of bits takes another one, and those beside them.
func edges() []int {
	all := []int{0, 1}
	for block := 64; block <= 256; block += 64 {
		all = append(all, block-9, block-8, block-1, block, block+1)
	}
	return all
}

// slowHex is the digits of a digest: those of the number that its bytes are to the base 256, with zeros ahead.
func slowHex(d api.Digest) string {
	text := new(big.Int).SetBytes(d[:]).Text(16)
	return strings.Repeat("0", 64-len(text)) + text
}

// slowParts is the digest of the lengths and bytes of these texts.
func slowParts(texts ...[]byte) api.Digest {
	all := []byte{}
	for _, text := range texts {
		length := len(text)
		for ; length >= 128; length /= 128 {
			all = append(all, byte(128+length%128))
		}
		all = append(append(all, byte(length)), text...)
	}
	return sha256.Sum256(all)
}

// slowLess looks for the first byte in which two digests differ.
func slowLess(a, b api.Digest) bool {
	for place := range 32 {
		if a[place] != b[place] {
			return a[place] < b[place]
		}
	}
	return false
}

// checkOf takes the library's digest from Of.
func checkOf(t *testing.T, b []byte) {
	t.Helper()
	if got, want := sha.Of(b), api.Digest(sha256.Sum256(b)); got != want {
		t.Errorf("Of %d bytes, %.80x: %x, not %x", len(b), b, got, want)
	}
}

// checkParts takes the digest of the encodings from Parts.
func checkParts(t *testing.T, texts ...[]byte) {
	t.Helper()
	if got, want := sha.Parts(texts...), slowParts(texts...); got != want {
		t.Errorf("Parts of %d texts: %x, not %x", len(texts), got, want)
	}
}

// checkHex takes these digits from Hex.
func checkHex(t *testing.T, d api.Digest) {
	t.Helper()
	if got, want := sha.Hex(d), slowHex(d); got != want {
		t.Errorf("Hex: %q, not %q", got, want)
	}
}

// checkLess takes the order of two digests from Less, in both directions.
func checkLess(t *testing.T, a, b api.Digest) {
	t.Helper()
	if got, want := sha.Less(a, b), slowLess(a, b); got != want {
		t.Errorf("Less of %x and %x: %t", a, b, got)
	}
	if got, want := sha.Less(b, a), slowLess(b, a); got != want {
		t.Errorf("Less of %x and %x: %t", b, a, got)
	}
}

// The example of the chapter, and one of each function.
func TestExamples(t *testing.T) {
	d := sha.Of([]byte("abc"))
	if got := sha.Hex(d); got != "ba7816bf8f01cfea414140de5dae2223b00361a396177a9cb410ff61f20015ad" {
		t.Errorf("Of abc: %s", got)
	}
	if got := sha.Parts([]byte("ab"), nil, []byte("c")); got != sha.Of([]byte{2, 'a', 'b', 0, 1, 'c'}) {
		t.Errorf("Parts: %x", got)
	}
	if got := sha.Hex(api.Digest{0x0f, 0xa9}); got != "0fa9"+strings.Repeat("00", 30) {
		t.Errorf("Hex: %s", got)
	}
	if !sha.Less(api.Digest{1, 2, 9}, api.Digest{1, 3, 8}) {
		t.Error("Less: false")
	}
}

// P10.1: digests that are published, that of no bytes among them.
func TestKnownDigests(t *testing.T) {
	for text, want := range map[string]string{
		"": "e3b0c44298fc1c149afbf4c8996fb92427ae41e4649b934ca495991b7852b855",
		"abcdbcdecdefdefgefghfghighijhijkijkljklmklmnlmnomnopnopq": "248d6a61d20638b8e5c026930c3e6039a33ce45964ff2167f6ecedd419db06c1",
		"abcdefghbcdefghicdefghijdefghijkefghijklfghijklmghijklmnhijklmnoijklmnopjklmnopqklmnopqrlmnopqrsmnopqrstnopqrstu": "" +
			"cf5b16a778af8380036ce59e7b0492370b249b11e8f07a51afac45037afee9d1",
		strings.Repeat("a", 1000000): "cdc76e5c9914fb9281a1c7e284d73e67f1809a48a497200e046d39ccc7112cd0",
	} {
		if got := sha.Hex(sha.Of([]byte(text))); got != want {
			t.Errorf("Of %.20q: %s, not %s", text, got, want)
		}
	}
	if got := sha.Of(nil); got != sha.Of([]byte{}) || got != sha256.Sum256(nil) {
		t.Errorf("Of nil: %x", got)
	}
}

// P10.1: each string of one byte, and some of each length, at the edges of blocks and elsewhere.
func TestOf(t *testing.T) {
	for value := range 256 {
		checkOf(t, []byte{byte(value)})
	}
	r := random()
	lengths := edges()
	for length := range 400 {
		lengths = append(lengths, length)
	}
	for _, length := range lengths {
		for _, value := range []byte{0, 0x7f, 0x80, 0xff} {
			checkOf(t, bytes.Repeat([]byte{value}, length))
		}
		for range 10 {
			checkOf(t, anyBytes(r, length))
		}
	}
}

// P10.1: a byte at each place, the others 0, with its highest bit or its lowest one.
func TestOfOneBit(t *testing.T) {
	for _, length := range []int{1, 55, 56, 63, 64, 65, 119, 120, 128} {
		for place := range length {
			for _, value := range []byte{0x80, 1} {
				b := make([]byte, length)
				b[place] = value
				checkOf(t, b)
			}
		}
	}
}

// P10.1: bytes that end as the filling begins are not taken for it.
func TestOfWhatLooksFilled(t *testing.T) {
	seen := map[api.Digest]int{}
	for _, length := range []int{0, 3, 55, 56, 64} {
		b := append(make([]byte, length), 0x80)
		for zeros := range 130 {
			filled := append(slices.Clone(b), make([]byte, zeros)...)
			checkOf(t, filled)
			seen[sha.Of(filled)]++
		}
	}
	if len(seen) != 5*130 {
		t.Errorf("%d different digests", len(seen))
	}
}

// P10.1: many blocks, and numbers of bits that take several bytes.
func TestOfLong(t *testing.T) {
	r := random()
	for _, length := range []int{4095, 4096, 8191, 8192, 8193, 65535, 65536, 1<<20 + 55, 1<<21 - 1, 1 << 21, 1<<21 + 56} {
		checkOf(t, anyBytes(r, length))
		checkOf(t, make([]byte, length))
	}
}

// P10.1: a number of bits that does not fit in 32 of them.
func TestOfVeryLong(t *testing.T) {
	if testing.Short() {
		t.Skip("takes some seconds")
	}
	checkOf(t, make([]byte, 1<<29+3))
}

// P10.1: no byte strings, one, several, and empty ones.
func TestParts(t *testing.T) {
	if got := sha.Parts(); got != sha.Of(nil) {
		t.Errorf("Parts of none: %x", got)
	}
	checkParts(t)
	checkParts(t, [][]byte{}...)
	for many := range 300 {
		checkParts(t, make([][]byte, many)...)
	}
	r := random()
	for range 2000 {
		texts := [][]byte{}
		for range r.IntN(8) {
			texts = append(texts, anyBytes(r, r.IntN(1+r.IntN(60))))
		}
		checkParts(t, texts...)
	}
}

// P10.1: texts whose lengths take one byte, two, three or four.
func TestPartsOfLongTexts(t *testing.T) {
	r := random()
	for _, length := range []int{1, 54, 55, 62, 63, 64, 126, 127, 128, 129, 255, 256, 300, 16383, 16384, 16385, 1<<21 - 1, 1 << 21} {
		text := anyBytes(r, length)
		checkParts(t, text)
		checkParts(t, nil, text)
		checkParts(t, text, nil)
		checkParts(t, []byte{1}, text, []byte{2, 3}, text)
	}
}

// P10.1: many texts.
func TestPartsOfManyTexts(t *testing.T) {
	r := random()
	texts := [][]byte{}
	for range 100000 {
		texts = append(texts, anyBytes(r, r.IntN(4)))
	}
	checkParts(t, texts...)
}

// P10.2: the ways to divide the same bytes, with an empty text at each place too, have different digests.
func TestPartsOfDivisions(t *testing.T) {
	text := []byte{1, 1, 0, 2, 1, 0, 3, 128, 1}
	seen := map[api.Digest]bool{sha.Parts(): true}
	count := 1
	see := func(texts [][]byte) {
		checkParts(t, texts...)
		seen[sha.Parts(texts...)] = true
		count++
	}
	for cuts := range 1 << (len(text) - 1) {
		parts, from := [][]byte{}, 0
		for to := 1; to <= len(text); to++ {
			if to == len(text) || cuts>>(to-1)&1 == 1 {
				parts, from = append(parts, text[from:to]), to
			}
		}
		see(parts)
		for place := range len(parts) + 1 {
			see(slices.Insert(slices.Clone(parts), place, []byte(nil)))
		}
	}
	if len(seen) != count {
		t.Errorf("%d different digests of %d sequences", len(seen), count)
	}
}

// P10.2: all sequences of up to four texts of up to two bytes, which look like lengths, have different digests.
func TestPartsOfAllSequences(t *testing.T) {
	texts := [][]byte{nil, {0}, {1}}
	for _, first := range []byte{0, 1, 2} {
		texts = append(texts, []byte{first, 0}, []byte{first, 1})
	}
	sequences := [][][]byte{{}}
	for from, many := 0, 0; many < 4; many++ {
		to := len(sequences)
		for _, shorter := range sequences[from:to] {
			for _, text := range texts {
				sequences = append(sequences, append(slices.Clone(shorter), text))
			}
		}
		from = to
	}
	seen := map[api.Digest][][]byte{}
	for _, sequence := range sequences {
		d := sha.Parts(sequence...)
		if other, ok := seen[d]; ok {
			t.Errorf("%x and %x have the same digest", sequence, other)
		}
		seen[d] = sequence
	}
	if len(seen) != 1+9+81+729+6561 {
		t.Errorf("%d different digests", len(seen))
	}
}

// P10.2: Parts of a text is not Of that text, nor Parts of the encoding of a sequence.
func TestPartsOfEncodings(t *testing.T) {
	for _, texts := range [][]string{{""}, {"a"}, {"\x01a"}, {"", ""}, {"a", "b"}, {"\x01a\x01b"}, {"\x00"}, {"\x00\x00"}} {
		parts, joined := [][]byte{}, ""
		for _, text := range texts {
			parts, joined = append(parts, []byte(text)), joined+text
		}
		if sha.Parts(parts...) == sha.Of([]byte(joined)) {
			t.Errorf("Parts of %q is Of their concatenation", texts)
		}
		checkParts(t, parts...)
	}
}

// P10.1: each byte at each place of a digest, so that each digit is at each place.
func TestHex(t *testing.T) {
	checkHex(t, api.Digest{})
	for place := range 32 {
		for value := range 256 {
			d := api.Digest{}
			d[place] = byte(value)
			checkHex(t, d)
			d = api.Digest(bytes.Repeat([]byte{byte(value)}, 32))
			d[place] ^= 0xff
			checkHex(t, d)
		}
	}
	r := random()
	for range 2000 {
		checkHex(t, anyDigest(r))
	}
}

// digests are those that differ at each place from others, at several, or not at all.
func digests(r *rand.Rand) []api.Digest {
	all := []api.Digest{{}, {}, api.Digest(bytes.Repeat([]byte{255}, 32))}
	for _, base := range []api.Digest{{}, anyDigest(r)} {
		for _, place := range []int{0, 1, 15, 30, 31} {
			for _, change := range []byte{1, 0x7f, 0x80, 0xff} {
				d := base
				d[place] ^= change
				all = append(all, d)
			}
		}
	}
	for range 20 {
		all = append(all, anyDigest(r))
	}
	return all
}

// P10.1: the first byte in which two digests differ decides, at each place, whatever is behind it.
func TestLess(t *testing.T) {
	r := random()
	for place := range 32 {
		for range 200 {
			a := anyDigest(r)
			checkLess(t, a, a)
			b := a
			b[place] ^= byte(1 + r.IntN(255))
			checkLess(t, a, b)
			copy(b[place:], anyBytes(r, 32))
			checkLess(t, a, b)
			// All that is behind the first difference tells the contrary.
			low, high := a, a
			low[place], high[place] = 0x7f, 0x80
			for behind := place + 1; behind < 32; behind++ {
				low[behind], high[behind] = 255, 0
			}
			if !sha.Less(low, high) || sha.Less(high, low) {
				t.Errorf("Less of %x and %x", low, high)
			}
		}
	}
	for a := range 256 {
		for b := range 256 {
			checkLess(t, api.Digest{byte(a)}, api.Digest{byte(b)})
			checkLess(t, api.Digest{31: byte(a)}, api.Digest{31: byte(b)})
		}
	}
}

// P10.2: no digest is less than itself, of two different ones exactly one is, and what is less than a lesser one is less.
func TestLessIsATotalOrder(t *testing.T) {
	all := digests(random())
	for _, a := range all {
		for _, b := range all {
			ab, ba := sha.Less(a, b), sha.Less(b, a)
			if a == b && (ab || ba) || a != b && ab == ba {
				t.Errorf("Less of %x and %x: %t, %t", a, b, ab, ba)
			}
			if ab != (sha.Hex(a) < sha.Hex(b)) {
				t.Errorf("Less of %x and %x: %t, and their digits tell the contrary", a, b, ab)
			}
			for _, c := range all {
				if ab && sha.Less(b, c) && !sha.Less(a, c) {
					t.Errorf("Less of %x, %x and %x is not transitive", a, b, c)
				}
			}
		}
	}
}

// guarded is these bytes with others beyond their length, and all of that memory.
func guarded(b []byte, beyond byte) (part, whole []byte) {
	whole = append(slices.Clone(b), slices.Repeat([]byte{beyond}, 200)...)
	return whole[:len(b)], whole
}

// R3: the bytes are not modified, and the memory beyond their length is neither read nor written.
func TestOfArguments(t *testing.T) {
	r := random()
	for _, length := range edges() {
		b := anyBytes(r, length)
		want := sha.Of(b)
		for _, beyond := range []byte{0, 0x80, 255} {
			part, whole := guarded(b, beyond)
			before := slices.Clone(whole)
			if got := sha.Of(part); got != want {
				t.Errorf("%d bytes: %x, with others beyond them %x", length, want, got)
			}
			if !slices.Equal(whole, before) {
				t.Errorf("%d bytes: changed to %x", length, whole)
			}
		}
	}
}

// R3: neither the texts are modified nor their sequence, nor the memory beyond the length of any of them.
func TestPartsArguments(t *testing.T) {
	r := random()
	for range 200 {
		whole := anyBytes(r, 400)
		sequence := [][]byte{}
		for range 6 {
			from := r.IntN(300)
			sequence = append(sequence, whole[from:from+r.IntN(90)])
		}
		texts := sequence[:4]
		want := slowParts(texts...)
		before, beforeSequence := slices.Clone(whole), slices.Clone(sequence)
		if got := sha.Parts(texts...); got != want {
			t.Errorf("Parts: %x, not %x", got, want)
		}
		if !slices.Equal(whole, before) {
			t.Error("the texts are modified")
		}
		for i := range sequence {
			same := len(sequence[i]) == len(beforeSequence[i]) && cap(sequence[i]) == cap(beforeSequence[i])
			if !same || &sequence[i][:1][0] != &beforeSequence[i][:1][0] {
				t.Errorf("text %d of the sequence is another one", i)
			}
		}
	}
}

// R3: Hex and Less do not modify the digests that are passed.
func TestDigestsAsArguments(t *testing.T) {
	r := random()
	a, b := anyDigest(r), anyDigest(r)
	beforeA, beforeB := a, b
	sha.Hex(a)
	sha.Less(a, b)
	if a != beforeA || b != beforeB {
		t.Errorf("changed to %x and %x", a, b)
	}
}

// R4: nil and empty texts are equivalent.
func TestNilIsEmpty(t *testing.T) {
	if sha.Of(nil) != sha.Of([]byte{}) {
		t.Error("Of")
	}
	if sha.Parts(nil, []byte{1}, []byte{}) != sha.Parts([]byte{}, []byte{1}, nil) {
		t.Error("Parts of empty texts")
	}
	if sha.Parts([][]byte(nil)...) != sha.Parts([][]byte{}...) {
		t.Error("Parts of none")
	}
}

// R6: the same arguments have the same results, whatever was called before, or is called at the same time.
func TestRepeated(t *testing.T) {
	r := random()
	inputs, want := [][]byte{}, []api.Digest{}
	for range 30 {
		inputs = append(inputs, anyBytes(r, r.IntN(300)))
		want = append(want, sha.Of(inputs[len(inputs)-1]))
	}
	parts := sha.Parts(inputs...)
	done := make(chan bool)
	for range 4 {
		go func() {
			for i, b := range inputs {
				if sha.Of(b) != want[i] || sha.Parts(inputs...) != parts || sha.Hex(want[i]) != slowHex(want[i]) {
					t.Errorf("%x: another result", b)
				}
			}
			done <- true
		}()
	}
	for range 4 {
		<-done
	}
}
