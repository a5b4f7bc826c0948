package shamir_test

import (
	"math"
	"math/rand/v2"
	"slices"
	"testing"

	"shroud/api"
	"shroud/gf"
	"shroud/shamir"
	"shroud/welch"
)

// random is a source with a fixed seed, so that each run tests the same.
func random() *rand.Rand { return rand.New(rand.NewPCG(5, 256)) }

// randomBytes are so many of any value.
func randomBytes(r *rand.Rand, many int) []byte {
	b := make([]byte, many)
	for i := range b {
		b[i] = byte(r.IntN(256))
	}
	return b
}

// slowShare sums up the powers of each byte's polynomial, as the chapter's words say it.
func slowShare(f *gf.Field, secret, coins []byte, open, who int) []byte {
	data := []byte{}
	for i, value := range secret {
		for power := 1; power < open; power++ {
			value ^= f.Mul(coins[i*(open-1)+power-1], f.Pow(byte(who+1), uint64(power)))
		}
		data = append(data, value)
	}
	return data
}

// sharesOf are those of some participants, by slowShare.
func sharesOf(f *gf.Field, secret, coins []byte, open int, who ...int) []api.Share {
	var l []api.Share
	for _, w := range who {
		l = append(l, api.Share{Who: w, Data: slowShare(f, secret, coins, open, w)})
	}
	return l
}

// cloned are shares in memory of their own.
func cloned(shares []api.Share) []api.Share {
	l := slices.Clone(shares)
	for i := range l {
		l[i].Data = slices.Clone(l[i].Data)
	}
	return l
}

// spoilt are shares of which some, by their indices, have every byte changed, each by any element but 0.
func spoilt(r *rand.Rand, shares []api.Share, indices []int) []api.Share {
	l := cloned(shares)
	for _, i := range indices {
		for j := range l[i].Data {
			l[i].Data[j] ^= byte(1 + r.IntN(255))
		}
	}
	return l
}

// upTo are the numbers below many.
func upTo(many int) []int {
	var l []int
	for i := range many {
		l = append(l, i)
	}
	return l
}

// subsets are all sets of so many numbers below many.
func subsets(many, so int) [][]int {
	if so == 0 {
		return [][]int{nil}
	}
	if many < so {
		return nil
	}
	l := subsets(many-1, so)
	for _, set := range subsets(many-1, so-1) {
		l = append(l, append(slices.Clone(set), many-1))
	}
	return l
}

// checkDeal holds the result of Deal against slowShare.
func checkDeal(t *testing.T, f *gf.Field, secret, coins []byte, open, many int) {
	t.Helper()
	l, e := shamir.Deal(f, secret, coins, open, many)
	if e != api.OK || len(l) != many {
		t.Fatalf("Deal of %d bytes, %d open, %d many: %d shares, error %d", len(secret), open, many, len(l), e)
	}
	for who := range l {
		if want := slowShare(f, secret, coins, open, who); !slices.Equal(l[who], want) {
			t.Fatalf("Deal(%v, %v, %d, %d), share %d: %v, not %v", secret, coins, open, many, who, l[who], want)
		}
	}
}

// checkOpen holds the result of Open against what is wanted.
func checkOpen(t *testing.T, f *gf.Field, shares []api.Share, open, wrong, bytes int, want []byte, wantErrno api.Errno) {
	t.Helper()
	got, e := shamir.Open(f, shares, open, wrong, bytes)
	if !slices.Equal(got, want) || e != wantErrno {
		t.Fatalf("Open(%v, %d, %d, %d): %v, %d, not %v, %d", shares, open, wrong, bytes, got, e, want, wantErrno)
	}
}

// checkRight holds the result of Right against what is wanted.
func checkRight(t *testing.T, f *gf.Field, s api.Share, secret, coins []byte, open int, want bool) {
	t.Helper()
	if got := shamir.Right(f, s, secret, coins, open); got != want {
		t.Fatalf("Right(%v) of %d bytes, %d coins, %d open: %t", s, len(secret), len(coins), open, got)
	}
}

// The example of the chapter and of DOC.md: it is dealt, opened, and right.
func TestExamples(t *testing.T) {
	f := gf.New()
	l, e := shamir.Deal(f, []byte{7}, []byte{1}, 2, 3)
	if e != api.OK || !slices.EqualFunc(l, [][]byte{{6}, {5}, {4}}, slices.Equal) {
		t.Errorf("Deal: %v, %d", l, e)
	}
	checkOpen(t, f, []api.Share{{Who: 0, Data: []byte{6}}, {Who: 1, Data: []byte{5}}, {Who: 2, Data: []byte{4}}}, 2, 0, 1, []byte{7}, api.OK)
	checkOpen(t, f, []api.Share{{Who: 2, Data: []byte{4}}, {Who: 0, Data: []byte{6}}}, 2, 0, 1, []byte{7}, api.OK)
	checkRight(t, f, api.Share{Who: 2, Data: []byte{4}}, []byte{7}, []byte{1}, 2, true)
	checkRight(t, f, api.Share{Who: 2, Data: []byte{5}}, []byte{7}, []byte{1}, 2, false)
	// By hand, on paper: 1 + 2x + 3x² and 4 + 5x + 6x² at 1 and 2.
	l, e = shamir.Deal(f, []byte{1, 4}, []byte{2, 3, 5, 6}, 3, 3)
	if e != api.OK || !slices.Equal(l[0], []byte{1 ^ 2 ^ 3, 4 ^ 5 ^ 6}) || !slices.Equal(l[1], []byte{1 ^ 4 ^ 12, 4 ^ 10 ^ 24}) {
		t.Errorf("Deal: %v, %d", l, e)
	}
}

// P5.1: Coins, at its bounds and for the greatest and least integers.
func TestCoins(t *testing.T) {
	for _, c := range []struct{ bytes, open, want int }{
		{6, 3, 12}, {1, 2, 1}, {1, 3, 2}, {2, 2, 2}, {32, 3, 64}, {4096, 200, 4096 * 199},
		{0, 3, 0}, {-1, 3, 0}, {-4096, 3, 0}, {math.MinInt, 3, 0},
		{6, 1, 0}, {6, 0, 0}, {6, -1, 0}, {-1, -1, 0}, {-2, -5, 0}, {6, math.MinInt, 0}, {math.MinInt, math.MinInt, 0},
		{4096, 2, 4096}, {4097, 2, 0}, {4097, 4097, 0}, {math.MaxInt, 2, 0}, {math.MaxInt, 1, 0},
		{1, 4096, 4095}, {1, 4097, 0}, {1, math.MaxInt, 0}, {0, math.MaxInt, 0},
		{4096, 4096, 4096 * 4095}, {math.MaxInt, math.MaxInt, 0}, {math.MaxInt, math.MinInt, 0}, {math.MinInt, math.MaxInt, 0},
	} {
		if got := shamir.Coins(c.bytes, c.open); got != c.want {
			t.Errorf("Coins(%d, %d): %d, not %d", c.bytes, c.open, got, c.want)
		}
	}
	for bytes := -3; bytes < 40; bytes++ {
		for open := -3; open < 40; open++ {
			if got, want := shamir.Coins(bytes, open), max(bytes, 0)*max(open-1, 0); got != want {
				t.Errorf("Coins(%d, %d): %d, not %d", bytes, open, got, want)
			}
		}
	}
}

// P5.1: the shares are the values of the polynomials, for all thresholds and numbers of participants at the bounds.
func TestDeal(t *testing.T) {
	f, r := gf.New(), random()
	for _, c := range []struct{ bytes, open, many int }{
		{0, 1, 1}, {0, 1, 200}, {0, 3, 7}, {0, 200, 200},
		{1, 1, 1}, {5, 1, 1}, {5, 1, 7}, {5, 1, 200},
		{1, 2, 2}, {5, 2, 2}, {5, 3, 3}, {5, 3, 4}, {5, 3, 7}, {32, 3, 7}, {3, 7, 7},
		{3, 2, 200}, {3, 199, 199}, {3, 199, 200}, {3, 200, 200}, {300, 2, 3},
		{4095, 2, 3}, {4096, 1, 2}, {4096, 3, 4}, {4096, 1, 200},
	} {
		secret, coins := randomBytes(r, c.bytes), randomBytes(r, c.bytes*(c.open-1))
		checkDeal(t, f, secret, coins, c.open, c.many)
	}
	for range 500 {
		open := 1 + r.IntN(9)
		secret := randomBytes(r, r.IntN(20))
		checkDeal(t, f, secret, randomBytes(r, len(secret)*(open-1)), open, open+r.IntN(9))
	}
}

// P5.1: with open 1, every share is the secret; and a secret without bytes has shares without bytes.
func TestDealPlain(t *testing.T) {
	f := gf.New()
	l, e := shamir.Deal(f, []byte("plain"), nil, 1, 200)
	if e != api.OK || len(l) != 200 {
		t.Fatalf("Deal: %d shares, %d", len(l), e)
	}
	for who := range l {
		if string(l[who]) != "plain" {
			t.Errorf("share %d: %q", who, l[who])
		}
	}
	for _, secret := range [][]byte{nil, {}} {
		l, e := shamir.Deal(f, secret, secret, 4, 5)
		if e != api.OK || len(l) != 5 || len(slices.Concat(l...)) != 0 {
			t.Errorf("Deal of no bytes: %v, %d", l, e)
		}
	}
}

// P5.1: a coin changes its byte of the shares alone, by the change times its power of the position.
func TestDealCoinsApart(t *testing.T) {
	f, r := gf.New(), random()
	const bytes, open, many = 3, 4, 9
	secret, coins := randomBytes(r, bytes), randomBytes(r, bytes*(open-1))
	before, _ := shamir.Deal(f, secret, coins, open, many)
	for coin := range coins {
		other := slices.Clone(coins)
		other[coin] ^= 0x53
		after, e := shamir.Deal(f, secret, other, open, many)
		if e != api.OK {
			t.Fatalf("Deal: error %d", e)
		}
		for who := range many {
			want := slices.Clone(before[who])
			want[coin/(open-1)] ^= f.Mul(0x53, f.Pow(byte(who+1), uint64(coin%(open-1)+1)))
			if !slices.Equal(after[who], want) {
				t.Errorf("coin %d, share %d: %v, not %v", coin, who, after[who], want)
			}
		}
	}
}

// P5.1: what Deal refuses.
func TestDealErrArg(t *testing.T) {
	f := gf.New()
	for _, c := range []struct {
		name                     string
		bytes, coins, open, many int
	}{
		{"open 0", 3, 0, 0, 3}, {"open below 0", 3, 0, -1, 3}, {"open below 0, many, too", 3, 0, -2, -1},
		{"least open", 3, 0, math.MinInt, 3}, {"least of both", 3, 0, math.MinInt, math.MinInt}, {"no bytes, open 0", 0, 0, 0, 0},
		{"many 0", 3, 0, 1, 0}, {"many below open", 3, 6, 3, 2}, {"many below 0", 3, 6, 3, -1}, {"least many", 3, 6, 3, math.MinInt},
		{"many 201", 3, 6, 3, 201}, {"greatest many", 3, 6, 3, math.MaxInt}, {"many 255", 3, 6, 3, 255}, {"many 256", 3, 6, 3, 256},
		{"many 2^32 + 3", 3, 6, 3, 1<<32 + 3}, {"no bytes, many 201", 0, 0, 1, 201}, {"open and many 201", 3, 600, 201, 201},
		{"open 201, many 200", 3, 600, 201, 200}, {"greatest of both", 3, 0, math.MaxInt, math.MaxInt},
		{"no bytes, greatest of both", 0, 0, math.MaxInt, math.MaxInt}, {"open 4097", 3, 0, 4097, 4097},
		{"4097 bytes", 4097, 4097, 2, 3}, {"4097 bytes, no coins", 4097, 0, 2, 3}, {"4097 bytes, open 1", 4097, 0, 1, 3},
		{"a coin too few", 3, 5, 3, 7}, {"a coin too many", 3, 7, 3, 7}, {"no coins", 3, 0, 3, 7}, {"twice as many coins", 3, 12, 3, 7},
		{"a coin for each byte and power", 3, 9, 3, 7}, {"open 1, a coin", 3, 1, 1, 7}, {"open 1, a coin for each", 3, 3, 1, 7},
		{"no bytes, a coin", 0, 1, 3, 7}, {"no bytes, open 1, a coin", 0, 1, 1, 1},
	} {
		l, e := shamir.Deal(f, make([]byte, c.bytes), make([]byte, c.coins), c.open, c.many)
		if len(l) != 0 || e != api.ErrArg {
			t.Errorf("%s: %v, %d", c.name, l, e)
		}
	}
}

// P5.3: any open shares, in any order, and more of them, determine the secret if none is wrong.
func TestOpenAnyShares(t *testing.T) {
	f, r := gf.New(), random()
	for open := 1; open <= 4; open++ {
		const many = 6
		secret := randomBytes(r, 4)
		dealt, e := shamir.Deal(f, secret, randomBytes(r, shamir.Coins(4, open)), open, many)
		if e != api.OK {
			t.Fatalf("Deal: error %d", e)
		}
		for so := open; so <= many; so++ {
			for _, set := range subsets(many, so) {
				r.Shuffle(so, func(i, j int) { set[i], set[j] = set[j], set[i] })
				var some []api.Share
				for _, who := range set {
					some = append(some, api.Share{Who: who, Data: dealt[who]})
				}
				for wrong := 0; open+2*wrong <= so; wrong++ {
					checkOpen(t, f, some, open, wrong, 4, secret, api.OK)
				}
				// A secret without bytes takes as many shares, and has no values.
				for i := range some {
					some[i].Data = nil
				}
				checkOpen(t, f, some, open, 0, 0, nil, api.OK)
			}
		}
	}
}

// P5.3: whichever shares are corrupted, up to as many as may be, the secret is found.
func TestOpenCorrupted(t *testing.T) {
	f, r := gf.New(), random()
	for _, c := range []struct{ open, wrong, more int }{
		{1, 1, 0}, {1, 2, 0}, {1, 3, 1}, {2, 1, 0}, {2, 2, 1}, {3, 1, 0}, {3, 2, 0}, {3, 2, 1}, {4, 3, 0}, {6, 0, 2},
	} {
		so := c.open + 2*c.wrong + c.more
		for count := range c.wrong + 1 {
			for _, indices := range subsets(so, count) {
				secret := randomBytes(r, 3)
				coins := randomBytes(r, shamir.Coins(3, c.open))
				shares := sharesOf(f, secret, coins, c.open, r.Perm(200)[:so]...)
				checkOpen(t, f, spoilt(r, shares, indices), c.open, c.wrong, 3, secret, api.OK)
			}
		}
	}
}

// P5.3: corrupted shares may be those of one other secret.
func TestOpenConspiring(t *testing.T) {
	f, r := gf.New(), random()
	for range 200 {
		open, wrong := 1+r.IntN(4), 1+r.IntN(3)
		so := open + 2*wrong
		who := r.Perm(200)[:so]
		secret := randomBytes(r, 5)
		shares := sharesOf(f, secret, randomBytes(r, 5*(open-1)), open, who...)
		others := sharesOf(f, randomBytes(r, 5), randomBytes(r, 5*(open-1)), open, who...)
		for _, i := range r.Perm(so)[:wrong] {
			shares[i] = others[i]
		}
		checkOpen(t, f, shares, open, wrong, 5, secret, api.OK)
	}
}

// P5.2: one corrupted share more than may be: with a share more than it takes, there is no secret; with as many as it
// takes, never the one that was dealt.
func TestOpenOneMore(t *testing.T) {
	f, r := gf.New(), random()
	for _, c := range []struct{ open, wrong int }{{1, 0}, {1, 1}, {2, 0}, {2, 1}, {2, 2}, {3, 2}, {4, 1}, {5, 0}} {
		so := c.open + 2*c.wrong
		for range 100 {
			secret := randomBytes(r, 2)
			shares := sharesOf(f, secret, randomBytes(r, 2*(c.open-1)), c.open, r.Perm(200)[:so+1]...)
			checkOpen(t, f, spoilt(r, shares, r.Perm(so + 1)[:c.wrong+1]), c.open, c.wrong, 2, nil, api.ErrCode)
			few := spoilt(r, shares[:so], r.Perm(so)[:c.wrong+1])
			if got, e := shamir.Open(f, few, c.open, c.wrong, 2); e == api.OK && slices.Equal(got, secret) || e == api.ErrCode && len(got) != 0 {
				t.Errorf("%d open, %d wrong, one more corrupted: %v, %d", c.open, c.wrong, got, e)
			}
		}
	}
}

// P5.2: a byte that no polynomial fits is an error for all bytes, whichever it is.
func TestOpenErrCode(t *testing.T) {
	f, r := gf.New(), random()
	shares := sharesOf(f, []byte("sealed"), randomBytes(r, 12), 3, 4, 0, 199, 7)
	checkOpen(t, f, shares, 3, 0, 6, []byte("sealed"), api.OK)
	for i := range 6 {
		for j := range shares {
			other := cloned(shares)
			other[j].Data[i] ^= 1
			checkOpen(t, f, other, 3, 0, 6, nil, api.ErrCode)
		}
	}
	constants := []api.Share{{Who: 0, Data: []byte{1}}, {Who: 1, Data: []byte{2}}, {Who: 2, Data: []byte{3}}}
	checkOpen(t, f, constants, 1, 0, 1, nil, api.ErrCode)
	checkOpen(t, f, constants, 1, 1, 1, nil, api.ErrCode)
	checkOpen(t, f, constants, 2, 0, 1, []byte{0}, api.OK)
}

// P5.2: each byte may have other wrong values; a share that is wrong at one byte may be right at the others.
func TestOpenBytesApart(t *testing.T) {
	f, r := gf.New(), random()
	secret := randomBytes(r, 21)
	shares := sharesOf(f, secret, randomBytes(r, 42), 3, 6, 5, 4, 3, 2, 1, 0)
	for i, pair := range subsets(7, 2) {
		for _, j := range pair {
			shares[j].Data[i] ^= byte(1 + r.IntN(255))
		}
	}
	checkOpen(t, f, shares, 3, 2, 21, secret, api.OK)
	checkOpen(t, f, shares, 3, 1, 21, nil, api.ErrCode)
}

// slowOpen asks Decode for each byte, as P5.2 says it.
func slowOpen(f *gf.Field, shares []api.Share, open, wrong, bytes int) ([]byte, api.Errno) {
	secret := []byte{}
	for i := range bytes {
		var points []api.Point
		for _, s := range shares {
			points = append(points, api.Point{X: byte(s.Who + 1), Y: s.Data[i]})
		}
		a, e := welch.Decode(f, points, open, wrong)
		if e != api.OK {
			return nil, api.ErrCode
		}
		secret = append(secret, a[0])
	}
	return secret, api.OK
}

// P5.2: Open returns what Decode returns for each byte, for values that are any at all.
func TestOpenAsDecode(t *testing.T) {
	f, r := gf.New(), random()
	results := map[api.Errno]int{}
	for range 3000 {
		open, wrong, bytes := 1+r.IntN(4), r.IntN(3), r.IntN(4)
		var shares []api.Share
		for _, who := range r.Perm(200)[:open+2*wrong+r.IntN(2)] {
			data := make([]byte, bytes)
			for i := range data {
				// Few different values, so that some polynomials are near.
				data[i] = byte(r.IntN(2))
			}
			shares = append(shares, api.Share{Who: who, Data: data})
		}
		want, e := slowOpen(f, shares, open, wrong, bytes)
		checkOpen(t, f, shares, open, wrong, bytes, want, e)
		results[e]++
	}
	if results[api.OK] < 500 || results[api.ErrCode] < 500 {
		t.Errorf("too few of a kind were tested: %v", results)
	}
}

// P5.2 and P5.3: all 200 participants, and a secret of 4096 bytes.
func TestOpenMany(t *testing.T) {
	f, r := gf.New(), random()
	for _, c := range []struct{ open, wrong int }{{1, 0}, {1, 99}, {2, 99}, {68, 66}, {198, 1}, {199, 0}, {200, 0}} {
		secret := randomBytes(r, 2)
		shares := sharesOf(f, secret, randomBytes(r, 2*(c.open-1)), c.open, r.Perm(200)...)
		checkOpen(t, f, spoilt(r, shares, r.Perm(200)[:c.wrong]), c.open, c.wrong, 2, secret, api.OK)
	}
	for _, bytes := range []int{4095, 4096} {
		secret := randomBytes(r, bytes)
		shares := sharesOf(f, secret, randomBytes(r, 2*bytes), 3, 199, 0, 100, 7, 42, 3, 198)
		checkOpen(t, f, spoilt(r, shares, []int{0, 5}), 3, 2, bytes, secret, api.OK)
	}
}

// P5.2: open and wrong against the number of shares, also for a secret without bytes and for the greatest and least
// integers.
func TestOpenErrArgNumbers(t *testing.T) {
	f, r := gf.New(), random()
	for bytes := range 3 {
		secret := randomBytes(r, bytes)
		for so := range 8 {
			plain := sharesOf(f, secret, nil, 1, upTo(so)...)
			for open := -2; open < 10; open++ {
				for wrong := -2; wrong < 6; wrong++ {
					if open < 1 || wrong < 0 || open+2*wrong > so {
						checkOpen(t, f, plain, open, wrong, bytes, nil, api.ErrArg)
						continue
					}
					// A constant is a polynomial of every degree.
					checkOpen(t, f, plain, open, wrong, bytes, secret, api.OK)
				}
			}
		}
		shares := sharesOf(f, secret, nil, 1, 0, 1, 2)
		for _, c := range []struct{ open, wrong int }{
			{math.MaxInt, 0}, {math.MinInt, 0}, {1, math.MaxInt}, {1, math.MinInt}, {math.MaxInt, math.MaxInt},
			{math.MinInt, math.MinInt}, {math.MinInt, math.MaxInt}, {math.MaxInt, math.MinInt}, {0, math.MaxInt},
			{1, 1 << 62}, {3, 1 << 62}, {1, 1<<62 + 1}, {2, math.MaxInt/2 + 1}, {math.MaxInt, 1},
			{math.MaxInt - 1, 1}, {3, -1}, {5, -1}, {1<<32 + 1, 0}, {1, 1 << 32}, {1<<32 + 1, 1 << 31},
		} {
			checkOpen(t, f, shares, c.open, c.wrong, bytes, nil, api.ErrArg)
		}
	}
	checkOpen(t, f, nil, 1, 0, 0, nil, api.ErrArg)
	checkOpen(t, f, nil, 1, 0, 3, nil, api.ErrArg)
	checkOpen(t, f, []api.Share{}, 0, 0, 0, nil, api.ErrArg)
}

// P5.2: bytes that are not from 0 to 4096, though the shares have the same length where one can.
func TestOpenErrArgBytes(t *testing.T) {
	f := gf.New()
	plain := sharesOf(f, nil, nil, 1, 0, 1, 2)
	for _, bytes := range []int{-1, -2, math.MinInt, 4097, 1 << 32, math.MaxInt} {
		checkOpen(t, f, plain, 1, 0, bytes, nil, api.ErrArg)
	}
	long := make([]byte, 4097)
	checkOpen(t, f, []api.Share{{Who: 0, Data: long}, {Who: 1, Data: long}}, 1, 0, 4097, nil, api.ErrArg)
	checkOpen(t, f, []api.Share{{Who: 0, Data: long[1:]}, {Who: 1, Data: long[1:]}}, 1, 0, 4096, long[1:], api.OK)
}

// P5.2: a Who that no participant has, or that is there twice, and a share of another length: each of the shares in
// turn, also where the others would be enough.
func TestOpenErrArgShares(t *testing.T) {
	f, r := gf.New(), random()
	for _, bytes := range []int{0, 4} {
		secret := randomBytes(r, bytes)
		shares := sharesOf(f, secret, randomBytes(r, bytes), 2, 9, 0, 199, 30, 5)
		checkOpen(t, f, shares, 2, 1, bytes, secret, api.OK)
		for i := range shares {
			for _, who := range []int{-1, 200, 201, 255, 256, -256, 1<<32 + 1, math.MinInt, math.MaxInt} {
				other := cloned(shares)
				other[i].Who = who
				checkOpen(t, f, other, 2, 1, bytes, nil, api.ErrArg)
			}
			for j := range i {
				other := cloned(shares)
				other[i].Who = other[j].Who
				checkOpen(t, f, other, 2, 1, bytes, nil, api.ErrArg)
				other[i].Data = other[j].Data
				checkOpen(t, f, other, 2, 1, bytes, nil, api.ErrArg)
			}
			for _, length := range []int{0, 1, bytes - 1, bytes + 1, 4096, 4097} {
				if length < 0 || length == bytes {
					continue
				}
				other := cloned(shares)
				other[i].Data = make([]byte, length)
				checkOpen(t, f, other, 2, 1, bytes, nil, api.ErrArg)
			}
		}
		checkOpen(t, f, shares, 2, 1, bytes+1, nil, api.ErrArg)
		all := sharesOf(f, secret, nil, 1, append(upTo(200), 0)...)
		checkOpen(t, f, all[:200], 1, 0, bytes, secret, api.OK)
		checkOpen(t, f, all, 1, 0, bytes, nil, api.ErrArg)
	}
}

// P5.2: an error in the arguments comes first, though the values of the shares fit no polynomial.
func TestOpenErrArgFirst(t *testing.T) {
	f := gf.New()
	misfits := []api.Share{{Who: 0, Data: []byte{1, 1}}, {Who: 1, Data: []byte{2, 2}}, {Who: 2, Data: []byte{3, 3}}}
	checkOpen(t, f, misfits, 1, 0, 2, nil, api.ErrCode)
	checkOpen(t, f, misfits, 1, 2, 2, nil, api.ErrArg)
	checkOpen(t, f, misfits, 1, 0, 1, nil, api.ErrArg)
	checkOpen(t, f, append(slices.Clone(misfits), api.Share{Who: 3, Data: []byte{1}}), 1, 0, 2, nil, api.ErrArg)
	checkOpen(t, f, append(slices.Clone(misfits), misfits[0]), 1, 0, 2, nil, api.ErrArg)
	checkOpen(t, f, append(slices.Clone(misfits), api.Share{Who: 200, Data: []byte{1, 1}}), 1, 0, 2, nil, api.ErrArg)
}

// P5.2: the share of each of 200 participants is right, and no other one.
func TestRight(t *testing.T) {
	f, r := gf.New(), random()
	for _, c := range []struct{ bytes, open int }{{0, 1}, {0, 3}, {0, 200}, {1, 1}, {1, 2}, {4, 3}, {3, 7}, {2, 199}, {2, 200}, {4096, 2}} {
		secret, coins := randomBytes(r, c.bytes), randomBytes(r, c.bytes*(c.open-1))
		dealt, e := shamir.Deal(f, secret, coins, c.open, 200)
		if e != api.OK {
			t.Fatalf("Deal: error %d", e)
		}
		for who := range dealt {
			checkRight(t, f, api.Share{Who: who, Data: dealt[who]}, secret, coins, c.open, true)
			next := dealt[(who+1)%200]
			checkRight(t, f, api.Share{Who: who, Data: next}, secret, coins, c.open, slices.Equal(next, dealt[who]))
			checkRight(t, f, api.Share{Who: who, Data: append(slices.Clone(dealt[who]), 0)}, secret, coins, c.open, false)
			if c.bytes > 0 {
				checkRight(t, f, api.Share{Who: who, Data: dealt[who][:c.bytes-1]}, secret, coins, c.open, false)
				checkRight(t, f, api.Share{Who: who}, secret, coins, c.open, false)
			}
		}
		for _, who := range []int{-1, 200, 201, 255, 256, -256, math.MinInt, math.MaxInt} {
			// The values of the polynomials there, so that nothing but Who is wrong.
			checkRight(t, f, api.Share{Who: who, Data: slowShare(f, secret, coins, c.open, who)}, secret, coins, c.open, false)
		}
	}
}

// P5.2: a share with any byte changed, a secret or coins with any byte changed, is not right.
func TestRightChanged(t *testing.T) {
	f, r := gf.New(), random()
	secret, coins := randomBytes(r, 5), randomBytes(r, 10)
	for _, who := range []int{0, 1, 77, 198, 199} {
		data := slowShare(f, secret, coins, 3, who)
		for _, b := range [][]byte{data, secret, coins} {
			for i := range b {
				for _, change := range []byte{1, 0x80, 0xff} {
					b[i] ^= change
					checkRight(t, f, api.Share{Who: who, Data: data}, secret, coins, 3, false)
					b[i] ^= change
				}
			}
		}
		checkRight(t, f, api.Share{Who: who, Data: data}, secret, coins, 3, true)
	}
}

// P5.2: where Deal returns an error for 200 participants, no share is right.
func TestRightNotDealt(t *testing.T) {
	f := gf.New()
	for _, c := range []struct{ bytes, coins, open int }{
		{3, 0, 0}, {3, 0, -1}, {3, 0, math.MinInt}, {0, 0, 0}, {0, 0, -1}, {0, 0, math.MinInt},
		{3, 600, 201}, {0, 0, 201}, {0, 0, 4097}, {0, 0, math.MaxInt}, {3, 0, math.MaxInt}, {3, 0, 4097},
		{3, 5, 3}, {3, 7, 3}, {3, 0, 3}, {3, 1, 1}, {3, 3, 1}, {0, 1, 1}, {0, 1, 3}, {4097, 0, 1}, {4097, 4097, 2}, {4097, 0, 2},
	} {
		// Zeros, that would be right for these secrets if the arguments were.
		zeros := api.Share{Who: 0, Data: make([]byte, c.bytes)}
		checkRight(t, f, zeros, make([]byte, c.bytes), make([]byte, c.coins), c.open, false)
	}
	checkRight(t, f, api.Share{Who: 0, Data: make([]byte, 3)}, make([]byte, 3), make([]byte, 597), 200, true)
}

// sum adds byte strings of the same length.
func sum(a, b []byte) []byte {
	s := slices.Clone(a)
	for i := range s {
		s[i] = gf.Add(s[i], b[i])
	}
	return s
}

// P5.3: the shares of the sum of two secrets, with the sums of the coins, are the sums of the shares.
func TestSums(t *testing.T) {
	f, r := gf.New(), random()
	for range 200 {
		bytes, open := r.IntN(10), 1+r.IntN(7)
		many := open + r.IntN(5)
		secret, other := randomBytes(r, bytes), randomBytes(r, bytes)
		coins, otherCoins := randomBytes(r, bytes*(open-1)), randomBytes(r, bytes*(open-1))
		a, e1 := shamir.Deal(f, secret, coins, open, many)
		b, e2 := shamir.Deal(f, other, otherCoins, open, many)
		both, e3 := shamir.Deal(f, sum(secret, other), sum(coins, otherCoins), open, many)
		if e1 != api.OK || e2 != api.OK || e3 != api.OK || len(both) != many {
			t.Fatalf("Deal: errors %d, %d, %d", e1, e2, e3)
		}
		var shares []api.Share
		for who := range many {
			if !slices.Equal(both[who], sum(a[who], b[who])) {
				t.Fatalf("share %d of the sum: %v, not the sum of %v and %v", who, both[who], a[who], b[who])
			}
			shares = append(shares, api.Share{Who: who, Data: sum(a[who], b[who])})
		}
		checkOpen(t, f, shares, open, 0, bytes, sum(secret, other), api.OK)
	}
}

// R4: nil and empty slices are the same.
func TestNilAndEmpty(t *testing.T) {
	f := gf.New()
	for _, none := range [][]byte{nil, {}} {
		checkDeal(t, f, none, none, 2, 3)
		checkDeal(t, f, []byte{1, 2}, none, 1, 3)
		checkOpen(t, f, []api.Share{{Who: 0, Data: none}, {Who: 1, Data: []byte{}}, {Who: 2}}, 2, 0, 0, nil, api.OK)
		checkRight(t, f, api.Share{Who: 1, Data: none}, nil, nil, 2, true)
		checkRight(t, f, api.Share{Who: 1, Data: none}, []byte{}, []byte{}, 2, true)
		checkRight(t, f, api.Share{Who: 1}, none, none, 2, true)
	}
}

// beyond is bytes with others behind them, which must be neither read nor written.
func beyond(b []byte) []byte { return append(slices.Clone(b), 0xa5, 0x5a, 0xa5)[:len(b)] }

// untouched tells whether the memory of bytes that beyond made is as it was.
func untouched(b, before []byte) bool {
	return slices.Equal(b[:len(b)+3], append(slices.Clone(before), 0xa5, 0x5a, 0xa5))
}

// R3: arguments are not modified, and what is beyond is neither read nor written, whether there is an error or not.
func TestArguments(t *testing.T) {
	f, r := gf.New(), random()
	secret, coins := randomBytes(r, 4), randomBytes(r, 8)
	mySecret, myCoins := beyond(secret), beyond(coins)
	for _, open := range []int{0, 1, 3, 4} {
		want, e := shamir.Deal(f, secret, coins, open, 6)
		got, e2 := shamir.Deal(f, mySecret, myCoins, open, 6)
		if e != e2 || !slices.EqualFunc(got, want, slices.Equal) {
			t.Errorf("Deal with %d open reads beyond: %v, %d, not %v, %d", open, got, e2, want, e)
		}
		for who := -1; who < 6; who++ {
			data := slowShare(f, secret, coins, 3, who)
			mine := api.Share{Who: who, Data: beyond(data)}
			checkRight(t, f, mine, mySecret, myCoins, open, open == 3 && who >= 0)
			if !untouched(mine.Data, data) {
				t.Errorf("Right modified the share of %d", who)
			}
		}
	}
	if !untouched(mySecret, secret) || !untouched(myCoins, coins) {
		t.Error("Deal or Right modified its arguments")
	}

	shares := spoilt(r, sharesOf(f, secret, coins, 3, 6, 0, 3, 199, 4), []int{2})
	mine := append(slices.Clone(shares), api.Share{Who: 6}, api.Share{Who: -1})[:len(shares)]
	for i := range mine {
		mine[i].Data = beyond(mine[i].Data)
	}
	checkOpen(t, f, mine, 3, 1, 4, secret, api.OK)
	checkOpen(t, f, mine, 3, 0, 4, nil, api.ErrCode)
	checkOpen(t, f, mine, 3, 2, 4, nil, api.ErrArg)
	checkOpen(t, f, mine, 3, 1, 5, nil, api.ErrArg)
	for i := range mine {
		if mine[i].Who != shares[i].Who || !untouched(mine[i].Data, shares[i].Data) {
			t.Errorf("Open modified share %d", i)
		}
	}
	if rest := mine[:len(mine)+2][len(mine):]; rest[0].Who != 6 || rest[0].Data != nil || rest[1].Who != -1 || rest[1].Data != nil {
		t.Errorf("Open wrote beyond its shares: %v", rest)
	}
}

// scribble changes all bytes of a slice, and those beyond it.
func scribble(b []byte) {
	b = b[:cap(b)]
	for i := range b {
		b[i] ^= 0xff
	}
}

// R3 and R6: results are new memory, no two shares share any, and the same call has the same result again, also for
// another field and after calls that failed.
func TestResults(t *testing.T) {
	f, r := gf.New(), random()
	for _, open := range []int{1, 3} {
		secret, coins := randomBytes(r, 4), randomBytes(r, 4*(open-1))
		oldSecret, oldCoins := slices.Clone(secret), slices.Clone(coins)
		l, _ := shamir.Deal(f, secret, coins, open, 5)
		for who := range l {
			if !slices.Equal(l[who], slowShare(f, oldSecret, oldCoins, open, who)) {
				t.Errorf("share %d shares memory with another one", who)
			}
			scribble(l[who])
		}
		if !slices.Equal(secret, oldSecret) || !slices.Equal(coins, oldCoins) {
			t.Error("the shares share memory with the arguments")
		}
		shamir.Deal(f, secret, coins, open, 201)
		checkDeal(t, f, secret, coins, open, 5)
		checkDeal(t, gf.New(), secret, coins, open, 5)

		shares := sharesOf(f, secret, coins, open, 3, 1, 4, 0, 2)
		before := cloned(shares)
		got, _ := shamir.Open(f, shares, open, 1, 4)
		scribble(got)
		shamir.Open(f, shares, open, 3, 4)
		shamir.Open(f, spoilt(r, shares, []int{1}), open, 0, 4)
		for i := range shares {
			if !slices.Equal(shares[i].Data, before[i].Data) {
				t.Errorf("the secret shares memory with share %d", i)
			}
		}
		checkOpen(t, f, shares, open, 1, 4, oldSecret, api.OK)
		checkOpen(t, gf.New(), shares, open, 1, 4, oldSecret, api.OK)
	}
}
