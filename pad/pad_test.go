package pad_test

import (
	"math"
	"math/big"
	"math/rand/v2"
	"slices"
	"testing"

	"shroud/pad"
)

// greatest is the greatest number that a seed, Drawn, and the arguments of Skip and Split may be.
const greatest = math.MaxUint64

// random is a source with a fixed seed, so that each run tests the same.
func random() *rand.Rand { return rand.New(rand.NewPCG(7, 64)) }

// bigNumber is a number written in hexadecimal digits.
func bigNumber(digits string) *big.Int {
	number, _ := new(big.Int).SetString(digits, 16)
	return number
}

// reduce is a number modulo 2^64.
func reduce(z *big.Int) *big.Int {
	return z.Mod(z, new(big.Int).Lsh(big.NewInt(1), 64))
}

// slowMix computes with whole numbers of any size, and reduces them modulo 2^64 by division.
func slowMix(s, i uint64) uint64 {
	z := new(big.Int).SetUint64(i)
	z.Add(z, big.NewInt(1))
	z.Mul(z, bigNumber("9e3779b97f4a7c15"))
	z = reduce(z.Add(z, new(big.Int).SetUint64(s)))
	z.Xor(z, new(big.Int).Rsh(z, 30))
	z = reduce(z.Mul(z, bigNumber("bf58476d1ce4e5b9")))
	z.Xor(z, new(big.Int).Rsh(z, 27))
	z = reduce(z.Mul(z, bigNumber("94d049bb133111eb")))
	return z.Xor(z, new(big.Int).Rsh(z, 31)).Uint64()
}

// slowCoins are the coins of a source from its Drawn on, each taken by its number.
func slowCoins(s pad.Source, many int) []byte {
	coins := []byte{}
	mixed, at := slowMix(s.Seed, s.Drawn/8), s.Drawn/8
	for n := s.Drawn; len(coins) < many; n++ {
		if n/8 != at {
			mixed, at = slowMix(s.Seed, n/8), n/8
		}
		coins = append(coins, byte(mixed/(1<<(n%8*8))%256))
	}
	return coins
}

// numbers are small ones, those at powers of 2 where something may be cut off, and those whose sums go beyond 2^64.
func numbers() []uint64 {
	all := []uint64{0, 1, 2, 3, 4, 5, 6, 7, 8, 9, 15, 16, 255, 256, 65535, 65536, 65537}
	for _, bit := range []int{31, 32, 33, 60, 61, 62, 63} {
		power := uint64(1) << bit
		all = append(all, power-8, power-1, power, power+1, power+7)
	}
	for below := range uint64(18) {
		all = append(all, greatest-below)
	}
	// With the second as a seed, and 0 as a number, what is mixed is 0.
	return append(all, 0x9e3779b97f4a7c15, greatest-0x9e3779b97f4a7c15+1)
}

// sources are all pairs of those numbers, and some at random.
func sources(r *rand.Rand) []pad.Source {
	all := []pad.Source{}
	for _, seed := range numbers() {
		for _, drawn := range numbers() {
			all = append(all, pad.Source{Seed: seed, Drawn: drawn})
		}
	}
	for range 500 {
		all = append(all, pad.Source{Seed: r.Uint64(), Drawn: r.Uint64()})
	}
	return all
}

// checkBytes holds the coins and the source that Bytes returns against what is wanted.
func checkBytes(t *testing.T, s pad.Source, many, want int) {
	t.Helper()
	got, rest := s.Bytes(many)
	if len(got) != want || !slices.Equal(got, slowCoins(s, want)) {
		t.Errorf("%x: Bytes(%d): %d coins, or wrong ones, not %d", s, many, len(got), want)
	}
	if (rest != pad.Source{Seed: s.Seed, Drawn: s.Drawn + uint64(want)}) {
		t.Errorf("%x: Bytes(%d): the source behind is %x", s, many, rest)
	}
}

// checkNext holds the number and the source that Next returns against what is wanted.
func checkNext(t *testing.T, s pad.Source) {
	t.Helper()
	want := uint64(0)
	for i, coin := range slowCoins(s, 8) {
		want += uint64(coin) * (1 << (8 * i))
	}
	got, rest := s.Next()
	if got != want || (rest != pad.Source{Seed: s.Seed, Drawn: s.Drawn + 8}) {
		t.Errorf("%x: Next: %x, %x, not %x", s, got, rest, want)
	}
}

// The example of the chapter, and what is worked out from it.
func TestExamples(t *testing.T) {
	n, rest := pad.Source{}.Next()
	if n != 0xe220a8397b1dcdaf || (rest != pad.Source{Drawn: 8}) {
		t.Errorf("Next: %x, %x", n, rest)
	}
	b, rest := pad.Source{}.Bytes(8)
	if !slices.Equal(b, []byte{0xaf, 0xcd, 0x1d, 0x7b, 0x39, 0xa8, 0x20, 0xe2}) || (rest != pad.Source{Drawn: 8}) {
		t.Errorf("Bytes: %x, %x", b, rest)
	}
	if got := (pad.Source{}).Split(0); (got != pad.Source{Seed: 0xe220a8397b1dcdaf}) {
		t.Errorf("Split: %x", got)
	}
}

// P7.1: the mixing is that of the generator SplitMix64, whose first numbers for these seeds are published.
func TestKnownNumbers(t *testing.T) {
	for seed, want := range map[uint64][]uint64{
		0:       {0xe220a8397b1dcdaf, 0x6e789e6aa1b965f4, 0x06c45d188009454f, 0xf88bb8a8724c81ec, 0x1b39896a51a8749b},
		1234567: {6457827717110365317, 3203168211198807973, 9817491932198370423, 4593380528125082431, 16408922859458223821},
	} {
		s, number := pad.Source{Seed: seed}, uint64(0)
		for i := range want {
			if number, s = s.Next(); number != want[i] {
				t.Errorf("seed %d: number %d is %x, not %x", seed, i, number, want[i])
			}
			if split := (pad.Source{Seed: seed}).Split(uint64(i)); (split != pad.Source{Seed: want[i]}) {
				t.Errorf("seed %d: Split(%d): %x, not %x", seed, i, split, want[i])
			}
		}
	}
}

// P7.1: the coins, for seeds and Drawn of all sizes, from each place within eight on.
func TestBytes(t *testing.T) {
	r := random()
	for _, s := range sources(r) {
		many := r.IntN(40)
		checkBytes(t, s, many, many)
	}
	for drawn := range uint64(17) {
		for many := range 33 {
			checkBytes(t, pad.Source{Seed: 77, Drawn: drawn}, many, many)
			checkBytes(t, pad.Source{Seed: 77, Drawn: greatest - drawn}, many, many)
		}
	}
}

// P7.1: many is clamped to the range 0 to 65536, and Drawn grows by no more than was drawn.
func TestBytesClamped(t *testing.T) {
	for _, s := range []pad.Source{{}, {Seed: 5, Drawn: 3}, {Seed: greatest, Drawn: greatest}, {Seed: 1 << 63, Drawn: greatest - 65535}, {Seed: 9, Drawn: greatest - 40000}} {
		for _, many := range []int{math.MinInt, math.MinInt + 1, math.MinInt32, -65537, -65536, -8, -1, 0} {
			checkBytes(t, s, many, 0)
		}
		for _, many := range []int{1, 7, 8, 9, 65528, 65535, 65536} {
			checkBytes(t, s, many, many)
		}
		for _, many := range []int{65537, 65544, 131072, 1 << 20, math.MaxInt32, 1 << 32, 1<<32 + 1, math.MaxInt - 1, math.MaxInt} {
			checkBytes(t, s, many, 65536)
		}
	}
}

// P7.1: eight coins, also if they are of two numbers of the mixing, and if coin 0 comes after the last one.
func TestNext(t *testing.T) {
	for _, s := range sources(random()) {
		checkNext(t, s)
	}
	for drawn := range uint64(33) {
		checkNext(t, pad.Source{Seed: 77, Drawn: drawn})
		checkNext(t, pad.Source{Seed: 77, Drawn: greatest - drawn})
	}
}

// P7.1: after the last coin, which has the number 2^64 - 1, comes coin 0 again.
func TestCoinsComeAgain(t *testing.T) {
	for _, seed := range numbers() {
		first, _ := pad.Source{Seed: seed}.Bytes(21)
		for below := range 12 {
			got, rest := pad.Source{Seed: seed, Drawn: -uint64(below)}.Bytes(below + 21)
			if !slices.Equal(got[below:], first) || rest.Drawn != 21 {
				t.Errorf("seed %x: %d coins ahead of coin 0: %x, %x, not %x", seed, below, got[below:], rest, first)
			}
		}
	}
}

// P7.1: Skip changes Drawn alone, modulo 2^64.
func TestSkip(t *testing.T) {
	for _, s := range sources(random()) {
		for _, many := range numbers() {
			sum := reduce(new(big.Int).Add(new(big.Int).SetUint64(s.Drawn), new(big.Int).SetUint64(many)))
			if got := s.Skip(many); (got != pad.Source{Seed: s.Seed, Drawn: sum.Uint64()}) {
				t.Fatalf("%x: Skip(%x): %x", s, many, got)
			}
		}
	}
}

// P7.1: the seed of a source that is split off depends on Drawn, and nothing was drawn from it.
func TestSplit(t *testing.T) {
	for _, seed := range numbers() {
		for _, n := range numbers() {
			mixed := slowMix(seed, n)
			for _, drawn := range numbers() {
				if got := (pad.Source{Seed: seed, Drawn: drawn}).Split(n); (got != pad.Source{Seed: mixed ^ drawn}) {
					t.Fatalf("seed %x, drawn %x: Split(%x): %x, not %x", seed, drawn, n, got, mixed^drawn)
				}
			}
		}
	}
	r := random()
	for range 2000 {
		s, n := pad.Source{Seed: r.Uint64(), Drawn: r.Uint64()}, r.Uint64()
		if got := s.Split(n); (got != pad.Source{Seed: slowMix(s.Seed, n) ^ s.Drawn}) {
			t.Fatalf("%x: Split(%x): %x", s, n, got)
		}
	}
}

// P7.1: a source that is split off after something was drawn by each of the calls, and is drawn from and split itself.
func TestSplitAfterDrawing(t *testing.T) {
	for _, seed := range []uint64{0, 1, 99, greatest} {
		_, s := pad.Source{Seed: seed}.Bytes(3)
		_, s = s.Next()
		s = s.Skip(10)
		split := s.Split(4)
		if (split != pad.Source{Seed: slowMix(seed, 4) ^ 21}) {
			t.Errorf("seed %x: Split after 21 coins: %x", seed, split)
		}
		checkBytes(t, split, 24, 24)
		_, rest := split.Bytes(5)
		if got := rest.Split(greatest); (got != pad.Source{Seed: slowMix(split.Seed, greatest) ^ 5}) {
			t.Errorf("seed %x: Split of what was split off: %x", seed, got)
		}
	}
}

// drawPart draws a part by a call that is chosen at random, at most as many coins as are left, and returns which of
// the coins that are drawn at once it is to be held against; skipped ones are not seen.
func drawPart(r *rand.Rand, s pad.Source, left int) (seen []byte, skipped int, rest pad.Source) {
	switch kind := r.IntN(4); {
	case kind == 0 && left >= 8:
		number, rest := s.Next()
		for i := range 8 {
			seen = append(seen, byte(number>>(8*i)))
		}
		return seen, 0, rest
	case kind == 1:
		skipped = r.IntN(min(left, 20) + 1)
		return nil, skipped, s.Skip(uint64(skipped))
	case kind == 2:
		seen, rest = s.Bytes(-r.IntN(3))
		return seen, 0, rest
	default:
		seen, rest = s.Bytes(r.IntN(min(left, 20) + 1))
		return seen, 0, rest
	}
}

// P7.2: coins drawn by Bytes, Next and Skip in turn are those drawn at once, and so is the source behind them.
func TestParts(t *testing.T) {
	r := random()
	for _, start := range sources(r) {
		many := 100 + r.IntN(50)
		whole, behind := start.Bytes(many)
		s, at := start, 0
		for at < many {
			seen, skipped, rest := drawPart(r, s, many-at)
			if !slices.Equal(seen, whole[at+skipped:at+skipped+len(seen)]) {
				t.Fatalf("%x: from coin %d on: %x, not %x", start, at, seen, whole[at:])
			}
			s, at = rest, at+skipped+len(seen)
		}
		if s != behind {
			t.Fatalf("%x: the source behind the parts is %x, not %x", start, s, behind)
		}
	}
}

// P7.2: any cut into two parts, within eight coins and between them.
func TestTwoParts(t *testing.T) {
	for drawn := range uint64(9) {
		for _, s := range []pad.Source{{Seed: 3, Drawn: drawn}, {Seed: greatest, Drawn: greatest - 8 - drawn}} {
			whole, behind := s.Bytes(30)
			for cut := range 31 {
				first, rest := s.Bytes(cut)
				second, end := rest.Bytes(30 - cut)
				if !slices.Equal(append(first, second...), whole) || end != behind {
					t.Errorf("%x: cut at %d: %x, %x", s, cut, first, second)
				}
				if second, end = s.Skip(uint64(cut)).Bytes(30 - cut); !slices.Equal(second, whole[cut:]) || end != behind {
					t.Errorf("%x: skipped %d: %x", s, cut, second)
				}
			}
		}
	}
}

// P7.2: more coins than Bytes gives at once.
func TestPartsBeyondTheMost(t *testing.T) {
	s := pad.Source{Seed: 12, Drawn: 5}
	first, rest := s.Bytes(100000)
	second, rest := rest.Bytes(100000 - len(first))
	if !slices.Equal(append(first, second...), slowCoins(s, 100000)) || rest != s.Skip(100000) {
		t.Errorf("100000 coins in two parts: %d and %d, or wrong ones", len(first), len(second))
	}
}

// R3, R6: a source is a value: what is drawn from it, and what becomes of the coins, changes nothing of it.
func TestSourceIsAValue(t *testing.T) {
	s := pad.Source{Seed: 8, Drawn: 13}
	before := s
	first, _ := s.Bytes(20)
	want := slices.Clone(first)
	number, _ := s.Next()
	skipped, split := s.Skip(9), s.Split(9)
	clear(first[:cap(first)])
	second, _ := s.Bytes(20)
	again, _ := s.Next()
	if s != before || !slices.Equal(second, want) || again != number || s.Skip(9) != skipped || s.Split(9) != split {
		t.Errorf("the same calls return others: %x, %x, %x", s, second, again)
	}
	if slices.Equal(first, second) {
		t.Error("the coins of two calls share memory")
	}
}

// R6: sources do not depend on each other, drawn from in turn.
func TestSourcesInTurn(t *testing.T) {
	a, b := pad.Source{Seed: 1}, pad.Source{Seed: 2, Drawn: 3}
	wantA, wantB := slowCoins(a, 90), slowCoins(b, 90)
	for at := 0; at < 90; at += 9 {
		var gotA, gotB []byte
		gotA, a = a.Bytes(9)
		gotB, b = b.Bytes(9)
		if !slices.Equal(gotA, wantA[at:at+9]) || !slices.Equal(gotB, wantB[at:at+9]) {
			t.Errorf("from coin %d on: %x, %x", at, gotA, gotB)
		}
	}
}
