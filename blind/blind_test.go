package blind_test

import (
	"math"
	"math/rand/v2"
	"slices"
	"testing"

	"shroud/api"
	"shroud/blind"
	"shroud/gf"
	"shroud/shamir"
)

// random is a source with a fixed seed, so that each run tests the same.
func random() *rand.Rand { return rand.New(rand.NewPCG(6, 256)) }

// randomBytes are so many of any value.
func randomBytes(r *rand.Rand, many int) []byte {
	b := make([]byte, many)
	for i := range b {
		b[i] = byte(r.IntN(256))
	}
	return b
}

// slowTimes multiplies bit by bit, without the tables of layer 1.
func slowTimes(a, b byte) byte {
	product := byte(0)
	for ; b != 0; b >>= 1 {
		if b&1 != 0 {
			product ^= a
		}
		carry := a >> 7
		a = a<<1 ^ carry*0x1b
	}
	return product
}

// slowInverse is found by trying all elements.
func slowInverse(a byte) byte {
	for b := 1; b < 256; b++ {
		if slowTimes(a, byte(b)) == 1 {
			return byte(b)
		}
	}
	return 0
}

// slowRemapping is the remapping polynomial as a product: (x + p) / p for the position p of each of who.
func slowRemapping(who []int) []byte {
	a := []byte{1}
	for _, w := range who {
		a = append(a, 0)
		inverse := slowInverse(byte(w + 1))
		for power := len(a) - 1; power > 0; power-- {
			a[power] ^= slowTimes(inverse, a[power-1])
		}
	}
	return a
}

// slowRemap adds to each coin what the remapping polynomial has at its power, as P6.1 says it.
func slowRemap(secret, other, coins []byte, open int, who []int) []byte {
	remapping := append(slowRemapping(who), make([]byte, open)...)
	remapped := []byte{}
	for i := range secret {
		for power := 1; power < open; power++ {
			remapped = append(remapped, coins[len(remapped)]^slowTimes(secret[i]^other[i], remapping[power]))
		}
	}
	return remapped
}

// checkRemap holds the result of Remap against slowRemap.
func checkRemap(t *testing.T, f *gf.Field, secret, other, coins []byte, open int, who []int) []byte {
	t.Helper()
	got, e := blind.Remap(f, secret, other, coins, open, who)
	if want := slowRemap(secret, other, coins, open, who); e != api.OK || !slices.Equal(got, want) {
		t.Fatalf("Remap of %d bytes, %d open, %v: %v, %d, not %v", len(secret), open, who, got, e, want)
	}
	return got
}

// checkRemapErrArg takes nothing but that error, and no coins.
func checkRemapErrArg(t *testing.T, f *gf.Field, secret, other, coins []byte, open int, who []int) {
	t.Helper()
	if got, e := blind.Remap(f, secret, other, coins, open, who); len(got) != 0 || e != api.ErrArg {
		t.Errorf("Remap of %d bytes to %d, %d coins, %d open, %v: %d coins, error %d", len(secret), len(other), len(coins), open, who, len(got), e)
	}
}

// checkSums holds the results of Seal and Pad, which are the same, against what is wanted.
func checkSums(t *testing.T, a, b, want []byte, wantErrno api.Errno) {
	t.Helper()
	if got, e := blind.Seal(a, b); !slices.Equal(got, want) || e != wantErrno {
		t.Errorf("Seal(%v, %v): %v, %d, not %v, %d", a, b, got, e, want, wantErrno)
	}
	if got, e := blind.Pad(a, b); !slices.Equal(got, want) || e != wantErrno {
		t.Errorf("Pad(%v, %v): %v, %d, not %v, %d", a, b, got, e, want, wantErrno)
	}
}

// checkFill holds the result of Fill against what is wanted.
func checkFill(t *testing.T, text []byte, length int, want []byte, wantErrno api.Errno) {
	t.Helper()
	if got, e := blind.Fill(text, length); !slices.Equal(got, want) || e != wantErrno {
		t.Errorf("Fill(%v, %d): %v, %d, not %v, %d", text, length, got, e, want, wantErrno)
	}
}

// checkStrip holds the result of Strip against what is wanted.
func checkStrip(t *testing.T, b, want []byte, wantErrno api.Errno) {
	t.Helper()
	if got, e := blind.Strip(b); !slices.Equal(got, want) || e != wantErrno {
		t.Errorf("Strip(%v): %v, %d, not %v, %d", b, got, e, want, wantErrno)
	}
}

// The examples of the chapter and of DOC.md, and one by hand for Remap.
func TestExamples(t *testing.T) {
	f := gf.New()
	checkSums(t, []byte{5, 6}, []byte{1, 1}, []byte{4, 7}, api.OK)
	checkFill(t, []byte("ab"), 4, []byte{2, 'a', 'b', 0}, api.OK)
	checkStrip(t, []byte{2, 'a', 'b', 0}, []byte("ab"), api.OK)
	// On paper: for the participant 0, the polynomial is 1 + x; the secrets 7 and 4 differ by 3.
	if got, e := blind.Remap(f, []byte{7}, []byte{4}, []byte{1}, 2, []int{0}); e != api.OK || !slices.Equal(got, []byte{1 ^ 3}) {
		t.Errorf("Remap: %v, %d", got, e)
	}
	// For the participant 1, it is 1 + x/2, and 2 times 8d is 1.
	if got, e := blind.Remap(f, []byte{0, 5}, []byte{2, 4}, []byte{9, 9}, 2, []int{1}); e != api.OK || !slices.Equal(got, []byte{9 ^ 1, 9 ^ 0x8d}) {
		t.Errorf("Remap: %v, %d", got, e)
	}
}

// P6.1: the coins, at the bounds: no bytes, open 1, nobody, one fewer than open, the participants 0 and 199.
func TestRemap(t *testing.T) {
	f, r := gf.New(), random()
	for _, c := range []struct {
		bytes, open int
		who         []int
	}{
		{0, 1, nil}, {0, 2, nil}, {0, 2, []int{7}}, {0, 200, []int{0, 199}},
		{1, 1, nil}, {5, 1, []int{}}, {4096, 1, nil},
		{1, 2, nil}, {5, 2, nil}, {5, 3, nil}, {3, 200, nil},
		{1, 2, []int{0}}, {1, 2, []int{199}}, {5, 2, []int{0}}, {5, 2, []int{199}}, {5, 2, []int{100}},
		{5, 3, []int{0}}, {5, 3, []int{199}}, {5, 3, []int{0, 199}}, {5, 3, []int{199, 0}}, {5, 4, []int{199, 0}},
		{5, 5, []int{4, 3, 2, 1}}, {5, 5, []int{1, 2, 3, 4}}, {32, 3, []int{6, 2}},
		{2, 199, r.Perm(200)[:198]}, {2, 200, r.Perm(200)[:199]}, {2, 200, r.Perm(200)[:100]}, {2, 200, []int{199}},
		{4095, 3, []int{1, 0}}, {4096, 3, []int{1, 0}}, {4096, 2, nil}, {4096, 200, r.Perm(200)[:199]},
	} {
		coins := randomBytes(r, c.bytes*(c.open-1))
		checkRemap(t, f, randomBytes(r, c.bytes), randomBytes(r, c.bytes), coins, c.open, c.who)
	}
	for range 1000 {
		bytes, open := r.IntN(9), 1+r.IntN(9)
		coins := randomBytes(r, bytes*(open-1))
		checkRemap(t, f, randomBytes(r, bytes), randomBytes(r, bytes), coins, open, r.Perm(200)[:r.IntN(open)])
	}
}

// P6.1: nobody's shares are to stay, and then the coins stay; so they do for the same secret.
func TestRemapCoinsStay(t *testing.T) {
	f, r := gf.New(), random()
	for open := 1; open < 6; open++ {
		secret, other, coins := randomBytes(r, 4), randomBytes(r, 4), randomBytes(r, 4*(open-1))
		for _, none := range [][]int{nil, {}} {
			if got, e := blind.Remap(f, secret, other, coins, open, none); e != api.OK || !slices.Equal(got, coins) {
				t.Errorf("for nobody: %v, %d, not %v", got, e, coins)
			}
		}
		if got, e := blind.Remap(f, secret, secret, coins, open, r.Perm(200)[:open-1]); e != api.OK || !slices.Equal(got, coins) {
			t.Errorf("to the same secret: %v, %d, not %v", got, e, coins)
		}
	}
}

// P6.1: the participants may be there in any order.
func TestRemapAnyOrder(t *testing.T) {
	f, r := gf.New(), random()
	for range 100 {
		secret, other, coins := randomBytes(r, 3), randomBytes(r, 3), randomBytes(r, 3*5)
		who := r.Perm(200)[:1+r.IntN(5)]
		want, _ := blind.Remap(f, secret, other, coins, 6, who)
		for range 5 {
			r.Shuffle(len(who), func(i, j int) { who[i], who[j] = who[j], who[i] })
			if got, e := blind.Remap(f, secret, other, coins, 6, who); e != api.OK || !slices.Equal(got, want) {
				t.Errorf("Remap for %v: %v, %d, not %v", who, got, e, want)
			}
		}
	}
}

// P6.1: the polynomial of each byte is that of secret plus the remapping polynomial times the sum: so it is at all
// positions, as far as there are participants.
func TestRemapPolynomial(t *testing.T) {
	f, r := gf.New(), random()
	for range 20 {
		open := 1 + r.IntN(6)
		secret, other, coins := randomBytes(r, 3), randomBytes(r, 3), randomBytes(r, 3*(open-1))
		who := r.Perm(200)[:r.IntN(open)]
		a, b := bothDealt(t, f, secret, other, coins, open, 200, who)
		remapping := slowRemapping(who)
		for p := range 200 {
			value := byte(0)
			for _, coefficient := range slices.Backward(remapping) {
				value = slowTimes(value, byte(p+1)) ^ coefficient
			}
			for i := range secret {
				if want := a[p][i] ^ slowTimes(value, secret[i]^other[i]); b[p][i] != want {
					t.Fatalf("%d open, %v: byte %d of share %d is %d, not %d", open, who, i, p, b[p][i], want)
				}
			}
		}
	}
}

// bothDealt are the shares of a secret, and those of another one by the coins that Remap returns.
func bothDealt(t *testing.T, f *gf.Field, secret, other, coins []byte, open, many int, who []int) (a, b [][]byte) {
	t.Helper()
	remapped, e := blind.Remap(f, secret, other, coins, open, who)
	if e != api.OK {
		t.Fatalf("Remap of %d bytes, %d open, %v: error %d", len(secret), open, who, e)
	}
	a, e1 := shamir.Deal(f, secret, coins, open, many)
	b, e2 := shamir.Deal(f, other, remapped, open, many)
	if e1 != api.OK || e2 != api.OK {
		t.Fatalf("Deal: errors %d, %d", e1, e2)
	}
	return a, b
}

// P6.3: who have the same shares of both secrets; of two that differ in every byte, nobody else has.
func TestRemapSameShares(t *testing.T) {
	f, r := gf.New(), random()
	for _, open := range []int{1, 2, 3, 5, 8, 68, 199, 200} {
		for _, so := range []int{0, 1, open / 2, open - 1} {
			if so >= open {
				continue
			}
			secret := randomBytes(r, 3)
			other := slices.Clone(secret)
			for i := range other {
				other[i] ^= byte(1 + r.IntN(255))
			}
			who := r.Perm(200)[:so]
			a, b := bothDealt(t, f, secret, other, randomBytes(r, 3*(open-1)), open, 200, who)
			for p := range 200 {
				for i := range secret {
					if (a[p][i] == b[p][i]) != slices.Contains(who, p) {
						t.Fatalf("%d open, %v: share %d is %v and %v", open, who, p, a[p], b[p])
					}
				}
			}
		}
	}
}

// P6.3: as many as may be tell nothing: for each of all 256 secrets of a byte there are coins with the same shares.
func TestRemapEverySecret(t *testing.T) {
	f := gf.New()
	who := []int{2, 0, 199}
	seen := [256]bool{}
	for value := range 256 {
		a, b := bothDealt(t, f, []byte{0x53}, []byte{byte(value)}, []byte{1, 2, 3}, 4, 200, who)
		for _, w := range who {
			if !slices.Equal(a[w], b[w]) {
				t.Errorf("secret %d: share %d is %v, not %v", value, w, b[w], a[w])
			}
		}
		shares := []api.Share{{Who: 5, Data: b[5]}}
		for _, w := range who {
			shares = append(shares, api.Share{Who: w, Data: a[w]})
		}
		opened, e := shamir.Open(f, shares, 4, 0, 1)
		if e != api.OK || !slices.Equal(opened, []byte{byte(value)}) || seen[b[5][0]] {
			t.Errorf("secret %d: %v, %d", value, opened, e)
		}
		seen[b[5][0]] = true
	}
}

// P6.3: remapping back returns the original coins.
func TestRemapBack(t *testing.T) {
	f, r := gf.New(), random()
	for range 500 {
		bytes, open := r.IntN(6), 1+r.IntN(6)
		secret, other, coins := randomBytes(r, bytes), randomBytes(r, bytes), randomBytes(r, bytes*(open-1))
		who := r.Perm(200)[:r.IntN(open)]
		there := checkRemap(t, f, secret, other, coins, open, who)
		if back := checkRemap(t, f, other, secret, there, open, who); !slices.Equal(back, coins) {
			t.Fatalf("%d bytes, %d open, %v: back to %v, not %v", bytes, open, who, back, coins)
		}
	}
}

// P6.1: open that is not from 1 to 200, though there are as many coins as it would take.
func TestRemapErrArgOpen(t *testing.T) {
	f := gf.New()
	for _, bytes := range []int{0, 1, 3} {
		secret := make([]byte, bytes)
		for _, open := range []int{0, -1, -2, -200, math.MinInt, 201, 202, 255, 256, 257, 4096, 4097, 1<<32 + 2, math.MaxInt} {
			for _, who := range [][]int{nil, {0}} {
				checkRemapErrArg(t, f, secret, secret, make([]byte, shamir.Coins(bytes, open)), open, who)
				checkRemapErrArg(t, f, secret, secret, nil, open, who)
			}
		}
		checkRemap(t, f, secret, secret, make([]byte, bytes*199), 200, nil)
	}
}

// P6.1: secrets of different lengths, and of more than 4096 bytes, with as many coins as either would take.
func TestRemapErrArgLengths(t *testing.T) {
	f := gf.New()
	for _, c := range []struct{ secret, other int }{
		{3, 2}, {3, 4}, {3, 0}, {0, 3}, {0, 1}, {1, 0}, {4096, 4097}, {4097, 4096}, {4096, 4095}, {4096, 0},
		{4097, 4097}, {4098, 4098}, {8192, 8192}, {1 << 16, 1 << 16},
	} {
		for open := 1; open < 4; open++ {
			for _, coins := range []int{c.secret * (open - 1), c.other * (open - 1), 0} {
				checkRemapErrArg(t, f, make([]byte, c.secret), make([]byte, c.other), make([]byte, coins), open, nil)
			}
		}
	}
}

// P6.1: too few and too many coins.
func TestRemapErrArgCoins(t *testing.T) {
	f := gf.New()
	for _, bytes := range []int{0, 1, 2, 3} {
		for open := 1; open < 5; open++ {
			secret, right := make([]byte, bytes), bytes*(open-1)
			for coins := range 3*right + 6 {
				if coins == right {
					checkRemap(t, f, secret, secret, make([]byte, coins), open, nil)
					continue
				}
				checkRemapErrArg(t, f, secret, secret, make([]byte, coins), open, nil)
			}
		}
	}
	checkRemapErrArg(t, f, make([]byte, 4096), make([]byte, 4096), make([]byte, 4096*199-1), 200, nil)
	checkRemapErrArg(t, f, make([]byte, 4096), make([]byte, 4096), make([]byte, 4096*199+1), 200, nil)
}

// P6.1: one of who that is no participant, or that is there twice: each of them in turn.
func TestRemapErrArgWho(t *testing.T) {
	f, r := gf.New(), random()
	who := []int{9, 0, 199, 30, 5}
	for _, bytes := range []int{0, 2} {
		secret, other, coins := randomBytes(r, bytes), randomBytes(r, bytes), randomBytes(r, bytes*7)
		checkRemap(t, f, secret, other, coins, 8, who)
		for i := range who {
			for _, w := range []int{-1, -2, -200, 200, 201, 255, 256, -256, 1 << 32, 1<<32 + 1, math.MinInt, math.MaxInt} {
				wrong := slices.Clone(who)
				wrong[i] = w
				checkRemapErrArg(t, f, secret, other, coins, 8, wrong)
				checkRemapErrArg(t, f, secret, other, coins, 8, []int{w})
			}
			for j := range i {
				wrong := slices.Clone(who)
				wrong[i] = who[j]
				checkRemapErrArg(t, f, secret, other, coins, 8, wrong)
			}
			checkRemapErrArg(t, f, secret, other, coins, 8, append(slices.Clone(who), who[i]))
			checkRemapErrArg(t, f, secret, other, coins, 8, []int{who[i], who[i]})
		}
	}
	for w := range 200 {
		checkRemap(t, f, []byte{1}, []byte{2}, []byte{3, 4}, 3, []int{w})
		checkRemapErrArg(t, f, []byte{1}, []byte{2}, []byte{3, 4}, 3, []int{w, w})
	}
}

// P6.1: open of them or more; one fewer is right.
func TestRemapErrArgTooMany(t *testing.T) {
	f, r := gf.New(), random()
	for _, bytes := range []int{0, 2} {
		for _, open := range []int{1, 2, 3, 5, 199, 200} {
			secret, other, coins := randomBytes(r, bytes), randomBytes(r, bytes), randomBytes(r, bytes*(open-1))
			all := r.Perm(200)
			checkRemap(t, f, secret, other, coins, open, all[:open-1])
			checkRemapErrArg(t, f, secret, other, coins, open, all[:open])
			checkRemapErrArg(t, f, secret, other, coins, open, all)
			checkRemapErrArg(t, f, secret, other, coins, open, append(all, all...))
			checkRemapErrArg(t, f, secret, secret, coins, open, all[:open])
		}
	}
}

// P6.2: the sums, byte by byte, for all pairs of bytes, and without any.
func TestSeal(t *testing.T) {
	r := random()
	for _, none := range [][]byte{nil, {}} {
		checkSums(t, none, none, nil, api.OK)
		checkSums(t, nil, none, nil, api.OK)
		checkSums(t, none, []byte{}, nil, api.OK)
	}
	for value := range 256 {
		var text, pad, want []byte
		for other := range 256 {
			text, pad, want = append(text, byte(value)), append(pad, byte(other)), append(want, byte(value^other))
		}
		checkSums(t, text, pad, want, api.OK)
	}
	long, pad := randomBytes(r, 10000), randomBytes(r, 10000)
	want := []byte{}
	for i := range long {
		want = append(want, long[i]^pad[i])
	}
	checkSums(t, long, pad, want, api.OK)
}

// P6.2: texts and pads of different lengths.
func TestSealErrArg(t *testing.T) {
	for a := range 6 {
		for b := range 6 {
			if a != b {
				checkSums(t, make([]byte, a), make([]byte, b), nil, api.ErrArg)
			}
		}
	}
	checkSums(t, nil, []byte{0}, nil, api.ErrArg)
	checkSums(t, []byte{0}, nil, nil, api.ErrArg)
	checkSums(t, make([]byte, 256), nil, nil, api.ErrArg)
	checkSums(t, make([]byte, 1), make([]byte, 257), nil, api.ErrArg)
}

// P6.3: a sealed text opens by its pad, and for every other text of the same length there is one under which it opens
// to that.
func TestSealEveryText(t *testing.T) {
	r := random()
	for range 200 {
		length := r.IntN(40)
		text, pad, other := randomBytes(r, length), randomBytes(r, length), randomBytes(r, length)
		sealed, e := blind.Seal(text, pad)
		if e != api.OK {
			t.Fatalf("Seal: error %d", e)
		}
		checkSums(t, sealed, pad, text, api.OK)
		checkSums(t, text, sealed, pad, api.OK)
		otherPad, e := blind.Pad(other, sealed)
		if e != api.OK {
			t.Fatalf("Pad: error %d", e)
		}
		checkSums(t, sealed, otherPad, other, api.OK)
		checkSums(t, other, otherPad, sealed, api.OK)
	}
}

// P6.2 and P6.3: every length with every length of a text; Strip inverts Fill.
func TestFill(t *testing.T) {
	r := random()
	for length := -3; length < 262; length++ {
		for bytes := range 260 {
			text := randomBytes(r, bytes)
			if length < 1 || length > 256 || bytes >= length {
				checkFill(t, text, length, nil, api.ErrFull)
				continue
			}
			filled := append([]byte{byte(bytes)}, text...)
			filled = append(filled, make([]byte, length-1-bytes)...)
			checkFill(t, text, length, filled, api.OK)
			checkStrip(t, filled, text, api.OK)
		}
	}
}

// P6.2: texts without bytes and the longest one; the least and the greatest lengths.
func TestFillEdges(t *testing.T) {
	r := random()
	for _, none := range [][]byte{nil, {}} {
		checkFill(t, none, 1, []byte{0}, api.OK)
		checkFill(t, none, 256, make([]byte, 256), api.OK)
		checkFill(t, none, 0, nil, api.ErrFull)
	}
	text := randomBytes(r, 255)
	checkFill(t, text, 256, append([]byte{255}, text...), api.OK)
	checkStrip(t, append([]byte{255}, text...), text, api.OK)
	checkFill(t, text, 255, nil, api.ErrFull)
	checkFill(t, text, 257, nil, api.ErrFull)
	checkFill(t, make([]byte, 256), 256, nil, api.ErrFull)
	checkFill(t, make([]byte, 256), 257, nil, api.ErrFull)
	// Zero bytes that belong to the text stay there.
	checkFill(t, []byte{0, 0}, 4, []byte{2, 0, 0, 0}, api.OK)
	checkStrip(t, []byte{2, 0, 0, 0}, []byte{0, 0}, api.OK)
	for _, length := range []int{-1, -256, math.MinInt, math.MinInt + 1, 512, 1 << 32, 1<<32 + 4, math.MaxInt} {
		checkFill(t, nil, length, nil, api.ErrFull)
		checkFill(t, []byte("ab"), length, nil, api.ErrFull)
		checkFill(t, make([]byte, 600), length, nil, api.ErrFull)
	}
}

// P6.2: no bytes and more than 256 bytes to strip, whatever they are.
func TestStripErrArg(t *testing.T) {
	checkStrip(t, nil, nil, api.ErrArg)
	checkStrip(t, []byte{}, nil, api.ErrArg)
	for _, length := range []int{257, 258, 512, 4096, 1 << 16} {
		checkStrip(t, make([]byte, length), nil, api.ErrArg)
		// What would be an error of the other kind, too, is this one.
		checkStrip(t, append(make([]byte, length-1), 1), nil, api.ErrArg)
		full := make([]byte, length)
		full[0] = 255
		checkStrip(t, full, nil, api.ErrArg)
	}
}

// P6.2: every first byte with every length: it is to be less.
func TestStripFirst(t *testing.T) {
	for length := 1; length <= 256; length++ {
		for first := range 256 {
			b := make([]byte, length)
			b[0] = byte(first)
			if first < length {
				checkStrip(t, b, b[1:1+first], api.OK)
			} else {
				checkStrip(t, b, nil, api.ErrTail)
			}
		}
	}
}

// P6.2: a byte after the text that is not 0, wherever it is; those of the text may be any.
func TestStripTail(t *testing.T) {
	for _, length := range []int{1, 2, 3, 5, 9, 255, 256} {
		for _, bytes := range []int{0, 1, 2, 4, 7, 8, 253, 254, 255} {
			if bytes >= length {
				continue
			}
			for i := 1; i < length; i++ {
				for _, value := range []byte{1, 0x80, 0xff} {
					b := make([]byte, length)
					b[0], b[i] = byte(bytes), value
					if i <= bytes {
						checkStrip(t, b, b[1:1+bytes], api.OK)
					} else {
						checkStrip(t, b, nil, api.ErrTail)
					}
				}
			}
		}
	}
	checkStrip(t, []byte{2, 'a'}, nil, api.ErrTail)
	checkStrip(t, []byte{1, 'a', 1}, nil, api.ErrTail)
	checkStrip(t, []byte{1}, nil, api.ErrTail)
	checkStrip(t, []byte{255}, nil, api.ErrTail)
	checkStrip(t, []byte{0, 1, 0}, nil, api.ErrTail)
	checkStrip(t, []byte{0}, nil, api.OK)
}

// R4: nil and empty slices are the same.
func TestNilAndEmpty(t *testing.T) {
	f := gf.New()
	for _, none := range [][]byte{nil, {}} {
		for _, nobody := range [][]int{nil, {}} {
			checkRemap(t, f, none, none, none, 1, nobody)
			checkRemap(t, f, none, nil, []byte{}, 3, nobody)
			checkRemap(t, f, nil, none, none, 3, []int{1, 2})
			checkRemap(t, f, []byte{1, 2}, []byte{3, 4}, none, 1, nobody)
			checkRemapErrArg(t, f, none, []byte{3}, none, 1, nobody)
			checkRemapErrArg(t, f, none, none, []byte{3}, 2, nobody)
		}
	}
}

// beyond is bytes with others behind them, which must be neither read nor written.
func beyond(b []byte) []byte { return append(slices.Clone(b), 0xa5, 0x5a, 0xa5)[:len(b)] }

// untouched tells whether the memory of bytes that beyond made is as it was.
func untouched(b, before []byte) bool {
	return slices.Equal(b[:len(b)+3], append(slices.Clone(before), 0xa5, 0x5a, 0xa5))
}

// scribble changes all bytes of a slice, and those beyond it.
func scribble(b []byte) {
	b = b[:cap(b)]
	for i := range b {
		b[i] ^= 0xff
	}
}

// R3: Remap modifies no argument, neither reads nor writes what is beyond, and its result is new memory, whether there
// is an error or not.
func TestRemapMemory(t *testing.T) {
	f, r := gf.New(), random()
	for _, open := range []int{0, 1, 2, 4} {
		secret, other, coins := randomBytes(r, 5), randomBytes(r, 5), randomBytes(r, 5*max(open-1, 0))
		mySecret, myOther, myCoins := beyond(secret), beyond(other), beyond(coins)
		who := append(r.Perm(200)[:max(open-1, 0)], -1, 7, 7)
		for so := range open {
			myWho := slices.Clone(who)
			got, e := blind.Remap(f, mySecret, myOther, myCoins, open, myWho[:so])
			if want := slowRemap(secret, other, coins, open, who[:so]); e != api.OK || !slices.Equal(got, want) {
				t.Errorf("Remap with %d open reads beyond: %v, %d, not %v", open, got, e, want)
			}
			scribble(got)
			if !slices.Equal(myWho, who) {
				t.Errorf("Remap modified who: %v, not %v", myWho, who)
			}
		}
		checkRemapErrArg(t, f, mySecret, myOther, myCoins, open, slices.Clone(who))
		checkRemapErrArg(t, f, mySecret, myOther[:4], myCoins, open, nil)
		if !untouched(mySecret, secret) || !untouched(myOther, other) || !untouched(myCoins, coins) {
			t.Error("Remap modified its arguments")
		}
	}
}

// R3: the same for the others.
func TestTextMemory(t *testing.T) {
	text, pad := []byte("text"), []byte{1, 2, 3, 4}
	myText, myPad := beyond(text), beyond(pad)
	filled := []byte{4, 't', 'e', 'x', 't', 0, 0}
	myFilled := beyond(filled)
	for range 2 {
		sealed, _ := blind.Seal(myText, myPad)
		scribble(sealed)
		opened, _ := blind.Pad(myText, myPad)
		scribble(opened)
		blind.Seal(myText, myPad[:3])
		blind.Pad(myText[:3], myPad)
		full, e := blind.Fill(myText, 7)
		if e != api.OK || !slices.Equal(full, filled) {
			t.Errorf("Fill reads beyond: %v, %d", full, e)
		}
		scribble(full)
		checkFill(t, myText, 4, nil, api.ErrFull)
		stripped, e := blind.Strip(myFilled)
		if e != api.OK || !slices.Equal(stripped, text) {
			t.Errorf("Strip reads beyond: %v, %d", stripped, e)
		}
		scribble(stripped)
		checkStrip(t, myFilled[:4], nil, api.ErrTail)
		checkStrip(t, myFilled[:0], nil, api.ErrArg)
	}
	if !untouched(myText, text) || !untouched(myPad, pad) || !untouched(myFilled, filled) {
		t.Errorf("arguments were modified: %v, %v, %v", myText, myPad, myFilled)
	}
}

// R3: one slice may be several arguments at once.
func TestSameArguments(t *testing.T) {
	f, r := gf.New(), random()
	b := randomBytes(r, 6)
	before := slices.Clone(b)
	checkRemap(t, f, b, b, b, 2, []int{3})
	checkSums(t, b, b, make([]byte, 6), api.OK)
	if !slices.Equal(b, before) {
		t.Errorf("the argument was modified: %v, not %v", b, before)
	}
}

// R6: the same call has the same result again, also for another field and after calls that failed.
func TestAgain(t *testing.T) {
	f, r := gf.New(), random()
	secret, other, coins := randomBytes(r, 4), randomBytes(r, 4), randomBytes(r, 12)
	for range 3 {
		checkRemap(t, f, secret, other, coins, 4, []int{1, 199})
		checkRemapErrArg(t, f, secret, other, coins, 4, []int{1, 2, 1})
		checkRemapErrArg(t, f, secret, other, coins, 3, []int{1})
		checkRemap(t, gf.New(), secret, other, coins, 4, []int{1, 199})
		checkRemap(t, f, secret, other, coins, 4, []int{2, 1})
	}
}
