package codec_test

import (
	"errors"
	"math"
	"math/big"
	"math/rand/v2"
	"runtime"
	"slices"
	"strings"
	"testing"

	"shroud/api"
	"shroud/codec"
)

// greatest is the greatest number that is encoded.
const greatest = math.MaxUint64

// random is a source with a fixed seed, so that each run tests the same.
func random() *rand.Rand { return rand.New(rand.NewPCG(8, 128)) }

// lengthEnds are the greatest numbers of each length of an encoding, but the last.
func lengthEnds() []uint64 {
	all := []uint64{}
	for bytes := 1; bytes <= 9; bytes++ {
		all = append(all, uint64(1)<<(7*bytes)-1)
	}
	return all
}

// numbers are small ones, and those at each length of an encoding and at the bounds of integers.
func numbers() []uint64 {
	all := []uint64{0, 1, 2, 3, 10, 99, 100, 129, 254, 255, 256, 257, 300, 16000, 65535, 65536}
	for _, end := range lengthEnds() {
		all = append(all, end-1, end, end+1, end+2)
	}
	for _, bit := range []int{31, 32, 62, 63} {
		all = append(all, uint64(1)<<bit-1, uint64(1)<<bit, uint64(1)<<bit+1)
	}
	return append(all, greatest-128, greatest-127, greatest-1, greatest)
}

// anyNumber is a number of a size that is chosen at random, too.
func anyNumber(r *rand.Rand) uint64 { return r.Uint64() >> r.IntN(64) }

// anyBytes are bytes at random.
func anyBytes(r *rand.Rand, many int) []byte {
	b := make([]byte, many)
	for i := range b {
		b[i] = byte(r.Uint32())
	}
	return b
}

// anyDigest is a digest at random.
func anyDigest(r *rand.Rand) api.Digest { return api.Digest(anyBytes(r, 32)) }

// slowNumber is the encoding of a number: its digits to the base 128, the lowest one first, as few as it takes.
func slowNumber(n uint64) []byte {
	digits := []byte{}
	for left := n; left > 0 || len(digits) == 0; left /= 128 {
		digits = append(digits, byte(left%128)+128)
	}
	digits[len(digits)-1] -= 128
	return digits
}

// slowText is the encoding of a byte string.
func slowText(text []byte) []byte { return slices.Concat(slowNumber(uint64(len(text))), text) }

// slowRead is what decoding a number from bytes is to give: the number, how many bytes it has, and the error. It
// computes with whole numbers of any size, and takes the tenth byte for the last one in any case.
func slowRead(b []byte, most uint64) (uint64, int, api.Errno) {
	end := 0
	for end < len(b) && end < 9 && b[end] >= 128 {
		end++
	}
	if end == len(b) {
		return 0, 0, api.ErrShort
	}
	value := new(big.Int)
	for i := end; i >= 0; i-- {
		digit := int64(b[i])
		if i < end {
			digit -= 128
		}
		value.Add(value.Mul(value, big.NewInt(128)), big.NewInt(digit))
	}
	if !value.IsUint64() || !slices.Equal(slowNumber(value.Uint64()), b[:end+1]) {
		return 0, 0, api.ErrKind
	}
	if value.Uint64() > most {
		return 0, 0, api.ErrOver
	}
	return value.Uint64(), end + 1, api.OK
}

// checkRead takes nothing but that error from reading these bytes.
func checkRead(t *testing.T, b []byte, by func(r *codec.Reader), want api.Errno) {
	t.Helper()
	if e := codec.Read(b, by); e != want {
		t.Errorf("Read of %x: error %d, not %d", b, e, want)
	}
}

// checkNumber holds decoding a number from bytes, and what is left behind it, against slowRead.
func checkNumber(t *testing.T, b []byte, most uint64) {
	t.Helper()
	want, bytes, wantErrno := slowRead(b, most)
	if wantErrno == api.OK && bytes < len(b) {
		wantErrno = api.ErrTail
	}
	got := uint64(0)
	e := codec.Read(b, func(r *codec.Reader) { got = r.Number(most) })
	if got != want || e != wantErrno {
		t.Fatalf("Number(%d) of %x: %d, error %d, not %d, %d", most, b, got, e, want, wantErrno)
	}
}

// checkEnds takes that a call on the reader terminates the decoding with that error: what comes behind it does not run.
func checkEnds(t *testing.T, b []byte, call func(r *codec.Reader), want api.Errno) {
	t.Helper()
	after := false
	e := codec.Read(b, func(r *codec.Reader) {
		call(r)
		after = true
	})
	if e != want || after {
		t.Errorf("Read of %x: error %d, not %d; by continued: %t", b, e, want, after)
	}
}

// checkDead takes that a reader decodes nothing.
func checkDead(t *testing.T, name string, r *codec.Reader) {
	t.Helper()
	n, text, d, count := r.Number(greatest), r.Text(math.MaxInt), r.Digest(), r.Count(math.MaxInt)
	if n != 0 || len(text) != 0 || d != (api.Digest{}) || count != 0 {
		t.Errorf("%s: %d, %x, %x, %d", name, n, text, d, count)
	}
	r.Number(0)
	r.Text(-1)
	r.Count(-1)
	r.Fail(api.ErrLate)
	r.Fail(api.OK)
}

// panicOf is what Read of these bytes panics with, and whether it returned.
func panicOf(b []byte, by func(r *codec.Reader)) (x any, returned bool) {
	defer func() { x = recover() }()
	codec.Read(b, by)
	return nil, true
}

// The examples of the chapter and of DOC.md.
func TestExamples(t *testing.T) {
	if b := codec.Number(nil, 300); !slices.Equal(b, []byte{0xac, 0x02}) {
		t.Errorf("Number: %x", b)
	}
	checkEnds(t, []byte{0x80, 0x00}, func(r *codec.Reader) { r.Number(greatest) }, api.ErrKind)
	b := codec.Text(codec.Number(codec.Number(codec.Number(nil, 1), 2), 300), nil)
	if !slices.Equal(b, []byte{0x01, 0x02, 0xac, 0x02, 0x00}) {
		t.Errorf("a Pay of 300 to account 2: %x", b)
	}
}

// P8.1: the bytes of numbers, written out.
func TestNumberBytes(t *testing.T) {
	for n, want := range map[uint64]string{
		0:              "\x00",
		1:              "\x01",
		127:            "\x7f",
		128:            "\x80\x01",
		16383:          "\xff\x7f",
		16384:          "\x80\x80\x01",
		1 << 32:        "\x80\x80\x80\x80\x10",
		1<<63 - 1:      "\xff\xff\xff\xff\xff\xff\xff\xff\x7f",
		1 << 63:        "\x80\x80\x80\x80\x80\x80\x80\x80\x80\x01",
		greatest:       "\xff\xff\xff\xff\xff\xff\xff\xff\xff\x01",
		greatest - 127: "\x80\xff\xff\xff\xff\xff\xff\xff\xff\x01",
	} {
		if got := codec.Number(nil, n); string(got) != want {
			t.Errorf("Number(%d): %x, not %x", n, got, want)
		}
	}
	for i, end := range lengthEnds() {
		if got := len(codec.Number(nil, end)); got != i+1 {
			t.Errorf("Number(%d): %d bytes, not %d", end, got, i+1)
		}
		if got := len(codec.Number(nil, end+1)); got != i+2 {
			t.Errorf("Number(%d): %d bytes, not %d", end+1, got, i+2)
		}
	}
}

// P8.1: numbers of all lengths behind bytes, with memory left beyond their end and without.
func TestNumber(t *testing.T) {
	r := random()
	all := numbers()
	for range 5000 {
		all = append(all, anyNumber(r))
	}
	for _, n := range all {
		for _, spare := range []int{0, 1, 5, 20} {
			b := append(make([]byte, 0, 3+spare), 7, 8, 9)
			if got := codec.Number(b, n); !slices.Equal(got, append([]byte{7, 8, 9}, slowNumber(n)...)) {
				t.Fatalf("Number(%d) with %d bytes of memory left: %x", n, spare, got)
			}
		}
		if got := codec.Number([]byte{}, n); !slices.Equal(got, slowNumber(n)) {
			t.Fatalf("Number(%d) behind nothing: %x", n, got)
		}
	}
}

// P8.1: byte strings whose lengths take one, two and three bytes, and a nil one, which is an empty one.
func TestText(t *testing.T) {
	r := random()
	for _, length := range []int{0, 1, 2, 31, 32, 33, 126, 127, 128, 129, 255, 256, 300, 16383, 16384, 70000} {
		text := anyBytes(r, length)
		for _, spare := range []int{0, 1, length, length + 10} {
			b := append(make([]byte, 0, 2+spare), 5, 6)
			if got := codec.Text(b, text); !slices.Equal(got, append([]byte{5, 6}, slowText(text)...)) {
				t.Errorf("Text of %d bytes with %d bytes of memory left: wrong", length, spare)
			}
		}
	}
	for _, b := range [][]byte{nil, {}} {
		for _, text := range [][]byte{nil, {}} {
			if got := codec.Text(b, text); !slices.Equal(got, []byte{0}) {
				t.Errorf("Text of nothing behind nothing: %x", got)
			}
		}
	}
}

// P8.1: thirty-two bytes, without a length.
func TestDigest(t *testing.T) {
	r := random()
	for range 100 {
		d := anyDigest(r)
		for _, b := range [][]byte{nil, {}, {3}, append(make([]byte, 0, 40), 3), append(make([]byte, 0, 20), 3)} {
			if got := codec.Digest(b, d); !slices.Equal(got, slices.Concat(b, d[:])) {
				t.Errorf("Digest(%x, %x): %x", b, d, got)
			}
		}
	}
	if got := codec.Digest(nil, api.Digest{}); !slices.Equal(got, make([]byte, 32)) {
		t.Errorf("Digest of zeros: %x", got)
	}
}

// P8.1, R3: nothing is changed but memory beyond the end of b, and a text in that memory is encoded as it was.
func TestEncodingAndMemory(t *testing.T) {
	memory := []byte("abcdefghij")
	text := memory[4:7:7]
	if got := codec.Text(memory[:2:2], text); string(got) != "ab\x03efg" || string(memory) != "abcdefghij" {
		t.Errorf("Text: %q, and the memory of the arguments: %q", got, memory)
	}
	for start := range 8 {
		for end := range start + 1 {
			for from := range 11 {
				for to := from; to <= 10; to++ {
					memory := []byte("abcdefghij")
					want := slices.Concat(memory[:end], slowText(memory[from:to]))
					if got := codec.Text(memory[:end], memory[from:to]); !slices.Equal(got, want) || string(memory[:end]) != "abcdefghij"[:end] {
						t.Fatalf("Text of bytes %d to %d behind %d bytes of the same memory: %q, not %q", from, to, end, got, want)
					}
				}
			}
		}
	}
	d := api.Digest{1, 31: 2}
	b := codec.Digest(nil, d)
	b[0] = 77
	if d[0] != 1 {
		t.Error("Digest: the result shares memory with the digest")
	}
}

// P8.2: numbers from all strings of up to two bytes, and many longer ones.
func TestReadNumber(t *testing.T) {
	mosts := []uint64{0, 1, 127, 128, 300, 16383, 16384, greatest}
	for _, most := range mosts {
		checkNumber(t, nil, most)
		for first := range 256 {
			checkNumber(t, []byte{byte(first)}, most)
			for second := range 256 {
				checkNumber(t, []byte{byte(first), byte(second)}, most)
			}
		}
	}
	r := random()
	edges := []byte{0, 1, 2, 0x7f, 0x80, 0x81, 0xfe, 0xff}
	for range 200000 {
		b := make([]byte, r.IntN(13))
		for i := range b {
			b[i] = edges[r.IntN(len(edges))]
			if r.IntN(3) > 0 {
				b[i] |= 0x80
			}
		}
		checkNumber(t, b, mosts[r.IntN(len(mosts))])
		checkNumber(t, b, greatest)
	}
}

// P8.2: numbers of each length, each cut short anywhere, with most at them, and with bytes behind them.
func TestReadNumberLengths(t *testing.T) {
	for _, n := range numbers() {
		b := slowNumber(n)
		for _, most := range []uint64{n, max(n, 1) - 1, n/2 + n%2, min(n, greatest-1) + 1, 0, greatest} {
			checkNumber(t, b, most)
			checkNumber(t, append(slices.Clone(b), 0), most)
			checkNumber(t, append(slices.Clone(b), 0xff, 0xff), most)
			for cut := range b {
				checkNumber(t, b[:cut], most)
			}
		}
		// A number that is above most by one, and one that is not.
		checkRead(t, b, func(r *codec.Reader) { r.Number(n) }, api.OK)
		if n > 0 {
			checkEnds(t, b, func(r *codec.Reader) { r.Number(n - 1) }, api.ErrOver)
		}
		for cut := range b {
			checkEnds(t, b[:cut], func(r *codec.Reader) { r.Number(0) }, api.ErrShort)
		}
	}
}

// P8.2: more bytes than a number takes, whatever it is.
func TestReadNumberTooLong(t *testing.T) {
	for _, n := range numbers() {
		for b := slowNumber(n); len(b) < 14; {
			b[len(b)-1] |= 0x80
			b = append(b, 0)
			for _, most := range []uint64{0, n, greatest} {
				checkEnds(t, b, func(r *codec.Reader) { r.Number(most) }, api.ErrKind)
				checkEnds(t, append(slices.Clone(b), 5), func(r *codec.Reader) { r.Number(most) }, api.ErrKind)
			}
		}
	}
}

// P8.2: each tenth byte, behind different ones, and also if it is the last one there.
func TestReadNumberTenthByte(t *testing.T) {
	for _, nine := range []byte{0x80, 0x81, 0xff} {
		for tenth := range 256 {
			b := append(slices.Repeat([]byte{nine}, 9), byte(tenth))
			checkNumber(t, b, greatest)
			checkNumber(t, append(slices.Clone(b), 0), greatest)
			checkNumber(t, append(slices.Clone(b), 0x80, 1), greatest)
			if tenth != 1 {
				checkEnds(t, b, func(r *codec.Reader) { r.Number(0) }, api.ErrKind)
			} else {
				checkEnds(t, b, func(r *codec.Reader) { r.Number(0) }, api.ErrOver)
			}
		}
		checkEnds(t, slices.Repeat([]byte{nine}, 9), func(r *codec.Reader) { r.Number(0) }, api.ErrShort)
		checkEnds(t, slices.Repeat([]byte{nine}, 10), func(r *codec.Reader) { r.Number(0) }, api.ErrKind)
		checkEnds(t, slices.Repeat([]byte{nine}, 100), func(r *codec.Reader) { r.Number(0) }, api.ErrKind)
	}
}

// P8.2: a byte string is as long as it may be, or not; cut short within its length and behind it.
func TestReadText(t *testing.T) {
	for _, length := range []int{0, 1, 2, 16, 32, 127, 128, 129, 300, 20000} {
		text := anyBytes(random(), length)
		b := slowText(text)
		for _, longest := range []int{length, length + 1, math.MaxInt32, math.MaxInt} {
			var got []byte
			checkRead(t, b, func(r *codec.Reader) { got = r.Text(longest) }, api.OK)
			if !slices.Equal(got, text) {
				t.Errorf("Text(%d) of %d bytes: %d others", longest, length, len(got))
			}
			checkRead(t, append(slices.Clone(b), 0), func(r *codec.Reader) { r.Text(longest) }, api.ErrTail)
			for _, cut := range []int{0, len(b) - length - 1, len(b) - length, len(b) - length/2 - 1, len(b) - 1} {
				if cut < len(b) {
					checkEnds(t, b[:cut], func(r *codec.Reader) { r.Text(longest) }, api.ErrShort)
				}
			}
		}
		for _, longest := range []int{length - 1, length / 2, 0, -1, math.MinInt} {
			if longest < length && length > 0 {
				checkEnds(t, b, func(r *codec.Reader) { r.Text(longest) }, api.ErrOver)
			}
		}
	}
}

// P8.2: if longest is below 0, an empty byte string is all that may come.
func TestReadTextBelowZero(t *testing.T) {
	for _, longest := range []int{0, -1, -2, -128, math.MinInt32, math.MinInt + 1, math.MinInt} {
		checkRead(t, []byte{0}, func(r *codec.Reader) { r.Text(longest) }, api.OK)
		checkEnds(t, []byte{1, 7}, func(r *codec.Reader) { r.Text(longest) }, api.ErrOver)
		checkEnds(t, codec.Number(nil, greatest), func(r *codec.Reader) { r.Text(longest) }, api.ErrOver)
		checkEnds(t, nil, func(r *codec.Reader) { r.Text(longest) }, api.ErrShort)
		checkEnds(t, []byte{0x80, 0}, func(r *codec.Reader) { r.Text(longest) }, api.ErrKind)
	}
}

// P8.2: the errors of the length come first, and a length beyond what is there takes no memory.
func TestReadTextErrors(t *testing.T) {
	for _, c := range []struct {
		b       []byte
		longest int
		want    api.Errno
	}{
		{nil, 9, api.ErrShort},
		{[]byte{0x80}, 9, api.ErrShort},
		{[]byte{0x81, 0, 5}, 9, api.ErrKind},
		{[]byte{10, 1, 2}, 9, api.ErrOver},
		{[]byte{9, 1, 2}, 9, api.ErrShort},
		{[]byte{2, 1}, 9, api.ErrShort},
		{codec.Number(nil, math.MaxInt), math.MaxInt, api.ErrShort},
		{codec.Number(nil, math.MaxInt), math.MaxInt - 1, api.ErrOver},
		{codec.Number(nil, math.MaxInt+1), math.MaxInt, api.ErrOver},
		{append(codec.Number(nil, greatest), 1), math.MaxInt, api.ErrOver},
		{append(codec.Number(nil, 1<<32), 1), math.MaxInt, api.ErrShort},
		{append(codec.Number(nil, 1<<32+1), 1), math.MaxInt, api.ErrShort},
		{[]byte{255, 255, 255, 255, 255, 255, 255, 255, 255, 2}, math.MaxInt, api.ErrKind},
	} {
		checkEnds(t, c.b, func(r *codec.Reader) { r.Text(c.longest) }, c.want)
	}
}

// P8.2: thirty-two bytes, or fewer, or more.
func TestReadDigest(t *testing.T) {
	want := anyDigest(random())
	for length := range 32 {
		checkEnds(t, want[:length], func(r *codec.Reader) { r.Digest() }, api.ErrShort)
		checkEnds(t, append([]byte{9}, want[:length]...), func(r *codec.Reader) {
			r.Number(9)
			r.Digest()
		}, api.ErrShort)
	}
	var got api.Digest
	checkRead(t, want[:], func(r *codec.Reader) { got = r.Digest() }, api.OK)
	if got != want {
		t.Errorf("Digest: %x, not %x", got, want)
	}
	checkRead(t, append(want[:], 0), func(r *codec.Reader) { got = r.Digest() }, api.ErrTail)
}

// P8.2: Count is a Number up to most, and up to 0 if that is negative.
func TestReadCount(t *testing.T) {
	mosts := []int{0, 1, 7, 127, 128, 16384, math.MaxInt32, math.MaxInt - 1, math.MaxInt, -1, -128, math.MinInt + 1, math.MinInt}
	strings := [][]byte{nil, {0x80}, {0x80, 0}, {0xff, 0xff}, {255, 255, 255, 255, 255, 255, 255, 255, 255, 2}}
	for _, n := range numbers() {
		strings = append(strings, slowNumber(n), append(slowNumber(n), 1))
	}
	for _, most := range mosts {
		for _, b := range strings {
			want, bytes, wantErrno := slowRead(b, uint64(max(most, 0)))
			if wantErrno == api.OK && bytes < len(b) {
				wantErrno = api.ErrTail
			}
			got := 0
			e := codec.Read(b, func(r *codec.Reader) { got = r.Count(most) })
			if got < 0 || uint64(got) != want || e != wantErrno {
				t.Errorf("Count(%d) of %x: %d, error %d, not %d, %d", most, b, got, e, want, wantErrno)
			}
		}
	}
}

// P8.2: Fail with each error, with OK, and with numbers that are no errors; what is left over does not count then.
func TestFail(t *testing.T) {
	for e := api.ErrArg; e <= api.ErrState; e++ {
		checkEnds(t, nil, func(r *codec.Reader) { r.Fail(e) }, e)
		checkEnds(t, []byte{1, 2}, func(r *codec.Reader) {
			r.Number(1)
			r.Fail(e)
		}, e)
	}
	for _, b := range [][]byte{nil, {1}, {0x80}} {
		checkEnds(t, b, func(r *codec.Reader) { r.Fail(api.OK) }, api.ErrArg)
		checkEnds(t, b, func(r *codec.Reader) { r.Fail(77) }, 77)
		checkEnds(t, b, func(r *codec.Reader) { r.Fail(-1) }, -1)
		checkEnds(t, b, func(r *codec.Reader) { r.Fail(math.MinInt) }, math.MinInt)
	}
}

// P8.2: by is called once, and Read tells whether bytes are left.
func TestReadToTheEnd(t *testing.T) {
	for _, b := range [][]byte{nil, {}, {0}, {0x80}, {1, 2, 3}, make([]byte, 1000)} {
		want, calls := api.OK, 0
		if len(b) > 0 {
			want = api.ErrTail
		}
		checkRead(t, b, func(r *codec.Reader) { calls++ }, want)
		if calls != 1 {
			t.Errorf("by was called %d times", calls)
		}
		checkRead(t, b, nil, want)
	}
	calls := 0
	checkRead(t, []byte{9}, func(r *codec.Reader) {
		calls++
		r.Number(8)
	}, api.ErrOver)
	if calls != 1 {
		t.Errorf("by, which is terminated, was called %d times", calls)
	}
}

// P8.2: the decoding is terminated from within the functions that by calls, whose deferred functions run.
func TestEndsFromWithin(t *testing.T) {
	steps := ""
	e := codec.Read([]byte{1, 2, 3, 9, 5}, func(r *codec.Reader) {
		defer func() { steps += "d" }()
		for range 5 {
			func() {
				defer func() { steps += "i" }()
				if r.Number(8) > 0 {
					steps += "n"
				}
			}()
		}
		steps += "never"
	})
	if e != api.ErrOver || steps != "nininiid" {
		t.Errorf("error %d after %q", e, steps)
	}
	checkRead(t, nil, func(r *codec.Reader) { defer r.Fail(api.ErrLate) }, api.ErrLate)
}

// P8.2: if by itself recovers what terminated the decoding, that stays terminated, with its first error.
func TestEndsThoughRecovered(t *testing.T) {
	calls := []func(r *codec.Reader){
		func(r *codec.Reader) { r.Number(greatest) },
		func(r *codec.Reader) { r.Text(9) },
		func(r *codec.Reader) { r.Digest() },
		func(r *codec.Reader) { r.Count(9) },
		func(r *codec.Reader) { r.Fail(api.ErrNone) },
		func(r *codec.Reader) { r.Fail(api.OK) },
	}
	b := append([]byte{0x80, 0, 3}, make([]byte, 64)...)
	for i, call := range calls {
		ended := 0
		e := codec.Read(b, func(r *codec.Reader) {
			for _, each := range []func(r *codec.Reader){calls[0], call, call} {
				func() {
					defer func() {
						if recover() != nil {
							ended++
						}
					}()
					each(r)
				}()
			}
		})
		if e != api.ErrKind || ended != 3 {
			t.Errorf("call %d: error %d, %d times terminated", i, e, ended)
		}
		checkEnds(t, b, func(r *codec.Reader) {
			defer call(r)
			r.Number(1)
		}, api.ErrKind)
	}
	checkEnds(t, nil, func(r *codec.Reader) {
		defer func() { panic(recover()) }()
		r.Fail(api.ErrFull)
	}, api.ErrFull)
}

// own is a type of a panic's value that the reader cannot know.
type own struct{ number int }

// P8.3: a panic of by's own is not recovered, whatever its value, also behind what was decoded.
func TestOwnPanics(t *testing.T) {
	place := &own{5}
	for _, want := range []any{"own", 7, 0, "", false, 1.5, api.ErrShort, api.OK, api.Errno(77), errors.New("own"), own{3}, place, &codec.Reader{}, codec.Reader{}, (*codec.Reader)(nil), (*own)(nil), struct{}{}, api.Digest{4}} {
		for _, b := range [][]byte{nil, {1}, {1, 2}, {0x80}} {
			got, returned := panicOf(b, func(r *codec.Reader) {
				if len(b) > 1 {
					r.Number(greatest)
				}
				panic(want)
			})
			if got != want || returned {
				t.Errorf("Read of %x: panic %v, not %v; returned: %t", b, got, want, returned)
			}
		}
	}
	got, returned := panicOf(nil, func(r *codec.Reader) { panic(r) })
	if _, ok := got.(*codec.Reader); !ok || returned {
		t.Errorf("a panic with the reader itself: %v", got)
	}
	got, returned = panicOf(nil, func(r *codec.Reader) { panic([]int{1}) })
	if list, ok := got.([]int); !ok || returned || !slices.Equal(list, []int{1}) {
		t.Errorf("a panic with a slice: %v", got)
	}
}

// P8.3: the panics of the language itself, a panic with nil among them.
func TestOwnRuntimePanics(t *testing.T) {
	var none []byte
	var nowhere *own
	var function func()
	for want, by := range map[string]func(r *codec.Reader){
		"index out of range":   func(r *codec.Reader) { none[r.Count(9)]++ },
		"nil pointer":          func(r *codec.Reader) { nowhere.number = 1 },
		"invalid memory":       func(r *codec.Reader) { function() },
		"integer divide":       func(r *codec.Reader) { none = make([]byte, 1/len(none)) },
		"called with nil":      func(r *codec.Reader) { panic(nil) },
		"interface conversion": func(r *codec.Reader) { _ = any(r).(error) },
	} {
		got, returned := panicOf([]byte{3}, by)
		if e, ok := got.(runtime.Error); !ok || returned || !strings.Contains(e.Error(), want) {
			t.Errorf("%s: panic %v; returned: %t", want, got, returned)
		}
	}
}

// P8.3: a panic of by's own after by recovered what terminated the decoding, which is not that of the reader.
func TestOwnPanicAfterTheEnd(t *testing.T) {
	for _, want := range []any{"own", 1, api.ErrLate, own{2}} {
		got, returned := panicOf(nil, func(r *codec.Reader) {
			defer func() {
				recover()
				panic(want)
			}()
			r.Fail(api.ErrLate)
		})
		if got != want || returned {
			t.Errorf("panic %v, not %v; returned: %t", got, want, returned)
		}
	}
	// What terminated one decoding does not come from the reader of another.
	var ending any
	codec.Read(nil, func(r *codec.Reader) {
		defer func() { ending = recover() }()
		r.Fail(api.ErrLate)
	})
	for _, fails := range []bool{false, true} {
		got, returned := panicOf(nil, func(r *codec.Reader) {
			defer func() {
				recover()
				panic(ending)
			}()
			if fails {
				r.Fail(api.ErrLate)
			}
		})
		if got == nil || got != ending || returned {
			t.Errorf("panic %v, not %v; returned: %t", got, ending, returned)
		}
	}
}

// P8.3: a goroutine that by ends does not return from Read.
func TestGoexit(t *testing.T) {
	for _, fails := range []bool{false, true} {
		var kept *codec.Reader
		returned, done := false, make(chan bool)
		go func() {
			defer close(done)
			codec.Read([]byte{1}, func(r *codec.Reader) {
				kept = r
				if fails {
					defer runtime.Goexit()
					r.Fail(api.ErrLate)
				}
				runtime.Goexit()
			})
			returned = true
		}()
		<-done
		if returned {
			t.Error("Read returned")
		}
		checkDead(t, "after Goexit", kept)
	}
}

// P8.3: readers that Read did not pass.
func TestDeadReaders(t *testing.T) {
	checkDead(t, "nil", nil)
	checkDead(t, "zero", &codec.Reader{})
	checkDead(t, "new", new(codec.Reader))
	checkRead(t, []byte{1, 2}, func(r *codec.Reader) {
		checkDead(t, "nil within by", nil)
		checkDead(t, "zero within by", &codec.Reader{})
		copied := *r
		checkDead(t, "a copy", &copied)
		if first, second := r.Number(9), r.Number(9); first != 1 || second != 2 {
			t.Errorf("beside other readers: %d, %d", first, second)
		}
	}, api.OK)
}

// P8.3: readers whose Read has returned, in every way in which it ends.
func TestReturnedReaders(t *testing.T) {
	b := slices.Concat([]byte{1}, make([]byte, 100))
	for name, by := range map[string]func(r *codec.Reader){
		"bytes left":   func(r *codec.Reader) { r.Number(9) },
		"nothing read": func(r *codec.Reader) {},
		"all read": func(r *codec.Reader) {
			r.Number(9)
			r.Digest()
			r.Digest()
			r.Digest()
			r.Text(0)
			r.Text(0)
			r.Text(0)
			r.Text(0)
		},
		"too great":      func(r *codec.Reader) { r.Number(0) },
		"failed":         func(r *codec.Reader) { r.Fail(api.ErrNone) },
		"own panic":      func(r *codec.Reader) { panic("own") },
		"recovered":      func(r *codec.Reader) { defer func() { recover() }(); r.Fail(api.ErrNone) },
		"panic after it": func(r *codec.Reader) { defer func() { recover(); panic("own") }(); r.Fail(api.ErrNone) },
	} {
		var kept *codec.Reader
		var copied codec.Reader
		panicOf(b, func(r *codec.Reader) {
			kept, copied = r, *r
			by(r)
		})
		checkDead(t, name, kept)
		checkDead(t, name+", copied", &copied)
		checkRead(t, []byte{5}, func(r *codec.Reader) {
			checkDead(t, name+", within another Read", kept)
			if n := r.Number(9); n != 5 {
				t.Errorf("%s: beside it, %d is read", name, n)
			}
		}, api.OK)
		*kept = copied
		checkDead(t, name+", copied back", kept)
	}
}

// P8.2, P8.3: a Read within by has a reader of its own, and an error of its own.
func TestReadWithinBy(t *testing.T) {
	b := codec.Number(codec.Text(codec.Text(nil, []byte{4, 5}), []byte{6, 0x80}), 7)
	numbers, errs := []uint64{}, []api.Errno{}
	checkRead(t, b, func(outer *codec.Reader) {
		for range 2 {
			errs = append(errs, codec.Read(outer.Text(9), func(inner *codec.Reader) {
				numbers = append(numbers, inner.Number(9))
				numbers = append(numbers, inner.Number(9))
			}))
		}
		numbers = append(numbers, outer.Number(9))
	}, api.OK)
	if !slices.Equal(numbers, []uint64{4, 5, 6, 7}) || !slices.Equal(errs, []api.Errno{api.OK, api.ErrShort}) {
		t.Errorf("numbers %d, errors %d", numbers, errs)
	}
	// Both readers in turn, and the inner one kept.
	var kept *codec.Reader
	checkRead(t, []byte{1, 3, 8}, func(outer *codec.Reader) {
		numbers = []uint64{outer.Number(9)}
		checkRead(t, []byte{2, 4, 9}, func(inner *codec.Reader) {
			kept = inner
			numbers = append(numbers, inner.Number(9), outer.Number(9), inner.Number(9))
		}, api.ErrTail)
		checkDead(t, "the inner reader", kept)
		numbers = append(numbers, outer.Number(9))
	}, api.OK)
	if !slices.Equal(numbers, []uint64{1, 2, 3, 4, 8}) {
		t.Errorf("numbers %d", numbers)
	}
}

// P8.2, P8.3: the outer reader terminates the outer decoding, also from within the inner one, and that is not recovered there.
func TestOuterEndsWithinInner(t *testing.T) {
	for _, innerFails := range []bool{false, true} {
		after := false
		var kept *codec.Reader
		e := codec.Read([]byte{9}, func(outer *codec.Reader) {
			codec.Read([]byte{1}, func(inner *codec.Reader) {
				kept = inner
				if innerFails {
					defer outer.Number(8)
					inner.Fail(api.ErrLate)
				}
				outer.Number(8)
				after = true
			})
			after = true
		})
		if e != api.ErrOver || after {
			t.Errorf("error %d; a by continued: %t", e, after)
		}
		checkDead(t, "the inner reader", kept)
	}
	got, returned := panicOf(nil, func(outer *codec.Reader) {
		codec.Read(nil, func(inner *codec.Reader) { panic("own") })
	})
	if got != "own" || returned {
		t.Errorf("a panic within two: %v; returned: %t", got, returned)
	}
}

// readWithin reads so many times within by, and then terminates the outermost decoding.
func readWithin(outermost *codec.Reader, times int) api.Errno {
	return codec.Read(nil, func(r *codec.Reader) {
		if outermost == nil {
			outermost = r
		}
		if times == 0 {
			outermost.Fail(api.ErrNone)
		}
		readWithin(outermost, times-1)
	})
}

// P8.2: as deep as the contracts hold.
func TestDeep(t *testing.T) {
	if e := readWithin(nil, 1<<16); e != api.ErrNone {
		t.Errorf("error %d", e)
	}
}

// R3: the bytes are not changed, nothing beyond their length is read, and what is done to them in by changes nothing.
func TestReadAndMemory(t *testing.T) {
	memory := append([]byte{2, 'a', 'b', 3, 'x', 'y', 'z'}, 1, 1)
	before := slices.Clone(memory)
	checkRead(t, memory[:7], func(r *codec.Reader) {
		first, second := r.Text(9), r.Text(9)
		clear(first[:cap(first)])
		if string(second) != "xyz" || !slices.Equal(memory, before) {
			t.Errorf("with the first text changed: %q, %x", second, memory)
		}
		clear(second[:cap(second)])
	}, api.OK)
	if !slices.Equal(memory, before) {
		t.Errorf("the bytes are %x", memory)
	}
	for cut := range 7 {
		want := api.ErrShort
		checkRead(t, memory[:cut], func(r *codec.Reader) { r.Text(9); r.Text(9) }, want)
	}
	checkRead(t, memory[:7], func(r *codec.Reader) {
		first := r.Text(9)
		clear(memory)
		if second := r.Text(9); string(first) != "ab" || string(second) != "xyz" {
			t.Errorf("with the bytes changed by by: %q, %q", first, second)
		}
	}, api.OK)
}

// R6: the same bytes, read again, give the same, whatever became of other readers.
func TestReadAgain(t *testing.T) {
	b := codec.Text(codec.Number(nil, 300), []byte("ab"))
	for range 3 {
		var n uint64
		var text []byte
		checkRead(t, b, func(r *codec.Reader) { n, text = r.Number(300), r.Text(2) }, api.OK)
		if n != 300 || string(text) != "ab" {
			t.Errorf("%d, %q", n, text)
		}
		checkRead(t, b, func(r *codec.Reader) { r.Number(299) }, api.ErrOver)
		panicOf(b, func(r *codec.Reader) { panic("own") })
	}
}

// value is one of the things that are encoded, by its kind.
type value struct {
	kind   int
	number uint64
	text   []byte
	digest api.Digest
}

// anyValue is a value at random.
func anyValue(r *rand.Rand) value {
	switch kind := r.IntN(4); kind {
	case 0:
		return value{kind: kind, number: anyNumber(r)}
	case 1:
		return value{kind: kind, text: anyBytes(r, r.IntN(200))}
	case 2:
		return value{kind: kind, digest: anyDigest(r)}
	default:
		return value{kind: kind, number: anyNumber(r) >> 1}
	}
}

// encode lays a value behind bytes.
func encode(b []byte, v value) []byte {
	switch v.kind {
	case 1:
		return codec.Text(b, v.text)
	case 2:
		return codec.Digest(b, v.digest)
	default:
		return codec.Number(b, v.number)
	}
}

// decode is the next value of a kind.
func decode(r *codec.Reader, kind int) value {
	switch kind {
	case 0:
		return value{number: r.Number(greatest)}
	case 1:
		return value{kind: 1, text: r.Text(math.MaxInt)}
	case 2:
		return value{kind: 2, digest: r.Digest()}
	default:
		return value{kind: 3, number: uint64(r.Count(math.MaxInt))}
	}
}

// same tells whether two values are the same.
func same(a, b value) bool {
	return a.kind == b.kind && a.number == b.number && slices.Equal(a.text, b.text) && a.digest == b.digest
}

// P8.4: what was encoded is decoded, as far as it is there.
func TestDecodingOfEncoding(t *testing.T) {
	r := random()
	for range 3000 {
		values, b := []value{}, []byte(nil)
		for range r.IntN(8) {
			v := anyValue(r)
			values, b = append(values, v), encode(b, v)
		}
		got := []value{}
		by := func(r *codec.Reader) {
			got = nil
			for _, v := range values {
				got = append(got, decode(r, v.kind))
			}
		}
		checkRead(t, b, by, api.OK)
		if !slices.EqualFunc(got, values, same) {
			t.Fatalf("%v, not %v", got, values)
		}
		checkRead(t, append(slices.Clone(b), byte(r.Uint32())), by, api.ErrTail)
		if len(b) > 0 {
			checkRead(t, b[:r.IntN(len(b))], by, api.ErrShort)
			if !slices.EqualFunc(got, values[:len(got)], same) {
				t.Fatalf("of what is cut: %v, not %v", got, values)
			}
		}
	}
}

// P8.4: each number at the lengths of an encoding, and each length of a text up to some.
func TestDecodingOfEach(t *testing.T) {
	for _, n := range numbers() {
		got := uint64(0)
		checkRead(t, codec.Number(nil, n), func(r *codec.Reader) { got = r.Number(n) }, api.OK)
		if got != n {
			t.Errorf("%d, not %d", got, n)
		}
	}
	for length := range 600 {
		text, got := anyBytes(random(), length), []byte(nil)
		checkRead(t, codec.Text(nil, text), func(r *codec.Reader) { got = r.Text(length) }, api.OK)
		if !slices.Equal(got, text) {
			t.Errorf("a text of %d bytes: %x, not %x", length, got, text)
		}
	}
}

// P8.4: what is decoded from any bytes without an error is encoded as these bytes.
func TestEncodingOfDecoding(t *testing.T) {
	r := random()
	accepted := 0
	for range 300000 {
		b := anyBytes(r, r.IntN(8))
		for i := range b {
			if r.IntN(2) == 0 {
				b[i] = byte(r.IntN(4)) | b[i]&0x80
			}
		}
		var again []byte
		e := codec.Read(b, func(reader *codec.Reader) {
			for len(again) < len(b) {
				again = encode(again, decode(reader, []int{0, 1, 3}[r.IntN(3)]))
			}
		})
		if e == api.OK {
			accepted++
		}
		if e == api.OK && !slices.Equal(again, b) || !slices.Equal(again, b[:min(len(again), len(b))]) {
			t.Fatalf("%x was decoded, error %d, and encoded as %x", b, e, again)
		}
	}
	if accepted < 10000 {
		t.Errorf("only %d of the byte strings were decoded", accepted)
	}
}

// P8.4: all strings of three bytes, as one number.
func TestEncodingOfEachNumber(t *testing.T) {
	for bits := range 1 << 24 {
		b := [3]byte{byte(bits), byte(bits >> 8), byte(bits >> 16)}
		if b[0] < 0x80 || b[1] < 0x80 && b[1] > 0 {
			continue // The number ends ahead of the third byte, as in a string of two.
		}
		n := uint64(0)
		e := codec.Read(b[:], func(r *codec.Reader) { n = r.Number(greatest) })
		if e == api.OK && !slices.Equal(codec.Number(nil, n), b[:]) {
			t.Fatalf("%x was decoded as %d", b, n)
		}
		if (e == api.OK) != (b[1] >= 0x80 && b[2] > 0 && b[2] < 0x80) {
			t.Fatalf("%x: error %d", b, e)
		}
	}
}
