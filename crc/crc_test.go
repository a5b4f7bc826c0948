package crc_test

import (
	"hash/crc32"
	"math"
	"math/rand/v2"
	"slices"
	"strings"
	"testing"

	"shroud/api"
	"shroud/crc"
)

// random is a source with a fixed seed, so that each run tests the same.
func random() *rand.Rand { return rand.New(rand.NewPCG(9, 32)) }

// anyBytes are bytes at random.
func anyBytes(r *rand.Rand, many int) []byte {
	b := make([]byte, many)
	for i := range b {
		b[i] = byte(r.Uint32())
	}
	return b
}

// divisor is the coefficients of what is divided by, that of x^32 first: the reversed bit representation has that of
// x^31 in its lowest bit.
func divisor() []bool {
	coefficients := []bool{true}
	for reversed := uint32(0xedb88320); len(coefficients) < 33; reversed /= 2 {
		coefficients = append(coefficients, reversed%2 == 1)
	}
	return coefficients
}

// slowOf is the checksum by a division on paper: the bits of the bytes, and 32 of value 0 for the remainder, of which the
// first 32 are inverted, since all bits are set initially.
func slowOf(b []byte) uint32 {
	bits := []bool{}
	for _, value := range slices.Concat(b, make([]byte, 4)) {
		for place := range 8 {
			bits = append(bits, value>>place&1 == 1)
		}
	}
	for place := range 32 {
		bits[place] = !bits[place]
	}
	by := divisor()
	for ; len(bits) > 32; bits = bits[1:] {
		if bits[0] {
			for place := range by {
				bits[place] = bits[place] != by[place]
			}
		}
	}
	sum := uint32(0)
	for place, bit := range bits {
		if !bit {
			sum |= 1 << place
		}
	}
	return sum
}

// slowFrame is the frame of a body.
func slowFrame(body []byte) []byte {
	length, sum := len(body), slowOf(body)
	frame := []byte{byte(length / 256), byte(length % 256)}
	for _, unit := range []uint32{1 << 24, 1 << 16, 1 << 8, 1} {
		frame = append(frame, byte(sum/unit%256))
	}
	return append(frame, body...)
}

// slowNext is what Next returns: it looks for a body whose frame b begins with.
func slowNext(b []byte) (body, rest []byte, e api.Errno) {
	if len(b) < 2 {
		return nil, nil, api.ErrShort
	}
	length := 256*int(b[0]) + int(b[1])
	if length == 0 || length > 1000 {
		return nil, nil, api.ErrKind
	}
	if len(b)-6 < length {
		return nil, nil, api.ErrShort
	}
	body, rest = b[6:6+length], b[6+length:]
	if !slices.Equal(slowFrame(body), b[:6+length]) {
		return nil, nil, api.ErrSum
	}
	return body, rest, api.OK
}

// checkNext takes that error alone from Next, or what slowNext returns without one.
func checkNext(t *testing.T, b []byte, want api.Errno) {
	t.Helper()
	wantBody, wantRest, e := slowNext(b)
	if e != want {
		t.Fatalf("the test expects error %d for %x, not %d", e, b, want)
	}
	body, rest, e := crc.Next(b)
	if !slices.Equal(body, wantBody) || !slices.Equal(rest, wantRest) || e != want {
		t.Errorf("Next of %x: %x, %x, error %d, not %x, %x, %d", b, body, rest, e, wantBody, wantRest, want)
	}
}

// checkAll takes these bodies from All, and that many bytes.
func checkAll(t *testing.T, b []byte, want [][]byte, bytes int) {
	t.Helper()
	got, n := crc.All(b)
	if !slices.EqualFunc(got, want, slices.Equal) || n != bytes {
		t.Errorf("All of %d bytes: %d bodies, or wrong ones, in %d bytes, not %d in %d", len(b), len(got), n, len(want), bytes)
	}
}

// frameOf is the frame of a body that may have one.
func frameOf(t *testing.T, body []byte) []byte {
	t.Helper()
	frame, e := crc.Frame(body)
	if e != api.OK {
		t.Fatalf("Frame of %d bytes: error %d", len(body), e)
	}
	return frame
}

// framesOf is the frames of bodies, one after the other.
func framesOf(t *testing.T, bodies [][]byte) []byte {
	t.Helper()
	all := []byte{}
	for _, body := range bodies {
		all = append(all, frameOf(t, body)...)
	}
	return all
}

// invert inverts those of 32 consecutive bits, from a bit on, that are set in the pattern. The bits of a byte are numbered
// from the lowest one on.
func invert(b []byte, from int, pattern uint32) []byte {
	inverted := slices.Clone(b)
	for place := range 32 {
		if pattern>>place&1 == 1 {
			inverted[(from+place)/8] ^= 1 << ((from + place) % 8)
		}
	}
	return inverted
}

// The example of the chapter, and one of each function.
func TestExamples(t *testing.T) {
	if got := crc.Of([]byte("123456789")); got != 0xcbf43926 {
		t.Errorf("Of: %x", got)
	}
	if got := crc.More(0x9be3e0a3, []byte("56789")); got != 0xcbf43926 {
		t.Errorf("More, after 1234: %x", got)
	}
	frame := []byte{0, 9, 0xcb, 0xf4, 0x39, 0x26, '1', '2', '3', '4', '5', '6', '7', '8', '9'}
	if got, e := crc.Frame([]byte("123456789")); !slices.Equal(got, frame) || e != api.OK {
		t.Errorf("Frame: %x, %d", got, e)
	}
	if body, rest, e := crc.Next(append(frame, 5)); string(body) != "123456789" || !slices.Equal(rest, []byte{5}) || e != api.OK {
		t.Errorf("Next: %q, %x, %d", body, rest, e)
	}
	if bodies, n := crc.All(append(frame, 5)); len(bodies) != 1 || string(bodies[0]) != "123456789" || n != len(frame) {
		t.Errorf("All: %q, %d", bodies, n)
	}
}

// P9.1: checksums that are published, no bytes among them.
func TestKnownChecksums(t *testing.T) {
	for text, want := range map[string]uint32{
		"":    0,
		"a":   0xe8b7be43,
		"abc": 0x352441c2,
		"The quick brown fox jumps over the lazy dog": 0x414fa339,
		"\x00\x00\x00\x00": 0x2144df1c,
		"\xff\xff\xff\xff": 0xffffffff,
	} {
		if got := crc.Of([]byte(text)); got != want {
			t.Errorf("Of %q: %x, not %x", text, got, want)
		}
	}
	if got := crc.Of(nil); got != 0 {
		t.Errorf("Of nil: %x", got)
	}
}

// P9.1: each string of one byte, and some of each length.
func TestOf(t *testing.T) {
	check := func(b []byte) {
		t.Helper()
		if got, want := crc.Of(b), slowOf(b); got != want {
			t.Errorf("Of %x: %x, not %x", b, got, want)
		}
	}
	for value := range 256 {
		check([]byte{byte(value)})
	}
	r := random()
	for length := range 150 {
		check(make([]byte, length))
		check(slices.Repeat([]byte{255}, length))
		for range 5 {
			check(anyBytes(r, length))
		}
	}
}

// P9.1: strings of two bytes, and long ones, for which the library's checksum takes less time.
func TestOfLong(t *testing.T) {
	check := func(b []byte) {
		t.Helper()
		if got, want := crc.Of(b), crc32.ChecksumIEEE(b); got != want {
			t.Fatalf("Of %d bytes: %x, not %x", len(b), got, want)
		}
	}
	for two := range 65536 {
		check([]byte{byte(two), byte(two >> 8)})
	}
	r := random()
	for _, length := range []int{999, 1000, 1001, 4095, 4096, 65535, 65536, 65537, 1 << 20} {
		check(anyBytes(r, length))
		check(make([]byte, length))
	}
}

// P9.1: each string, cut into two parts at each place, its ends among them.
func TestMoreInTwoParts(t *testing.T) {
	r := random()
	for length := range 70 {
		b := anyBytes(r, length)
		want := slowOf(b)
		for cut := range length + 1 {
			if got := crc.More(crc.Of(b[:cut]), b[cut:]); got != want {
				t.Errorf("%x, cut at %d: %x, not %x", b, cut, got, want)
			}
		}
	}
}

// P9.1: any number of parts, of which some have no bytes, from the checksum 0 of no bytes on.
func TestMoreInParts(t *testing.T) {
	r := random()
	for range 300 {
		b := anyBytes(r, r.IntN(300))
		sum, left := uint32(0), b
		for len(left) > 0 {
			cut := r.IntN(min(len(left), 40) + 1)
			sum, left = crc.More(sum, left[:cut]), left[cut:]
		}
		if want := slowOf(b); sum != want {
			t.Fatalf("%x in parts: %x, not %x", b, sum, want)
		}
	}
}

// P9.1: any number is the checksum of some string; no bytes behind it leave it as it is.
func TestMoreOfAnySum(t *testing.T) {
	r := random()
	sums := []uint32{0, 1, 15, 16, 255, 256, 1 << 31, math.MaxInt32, math.MaxUint32 - 1, math.MaxUint32, 0xedb88320}
	for range 500 {
		sums = append(sums, r.Uint32())
	}
	for _, sum := range sums {
		if crc.More(sum, nil) != sum || crc.More(sum, []byte{}) != sum {
			t.Errorf("More of %x and no bytes: %x, %x", sum, crc.More(sum, nil), crc.More(sum, []byte{}))
		}
		b := anyBytes(r, 1+r.IntN(50))
		if got, want := crc.More(sum, b), crc32.Update(sum, crc32.IEEETable, b); got != want {
			t.Errorf("More of %x and %x: %x, not %x", sum, b, got, want)
		}
	}
}

// P9.1: bodies of each length that a frame may have.
func TestFrame(t *testing.T) {
	r := random()
	for length := 1; length <= 1000; length++ {
		body := anyBytes(r, length)
		frame, e := crc.Frame(body)
		if !slices.Equal(frame, slowFrame(body)) || e != api.OK {
			t.Errorf("Frame of %d bytes: %x, error %d", length, frame, e)
		}
	}
}

// P9.1: bodies of no length that a frame may have.
func TestFrameErrors(t *testing.T) {
	bodies := [][]byte{nil, {}, make([]byte, 0, 9)}
	for _, length := range []int{1001, 1002, 1024, 65535, 65536, 65537, 66536, 1 << 17} {
		bodies = append(bodies, make([]byte, length))
	}
	for _, body := range bodies {
		if frame, e := crc.Frame(body); len(frame) != 0 || e != api.ErrArg {
			t.Errorf("Frame of %d bytes: %x, error %d", len(body), frame, e)
		}
	}
}

// P9.2: frames of all lengths at the bounds, with nothing behind them, or some bytes, or another frame.
func TestNext(t *testing.T) {
	r := random()
	for _, length := range []int{1, 2, 3, 100, 255, 256, 257, 999, 1000} {
		frame := frameOf(t, anyBytes(r, length))
		checkNext(t, frame, api.OK)
		checkNext(t, append(slices.Clone(frame), 0), api.OK)
		checkNext(t, append(slices.Clone(frame), anyBytes(r, 2000)...), api.OK)
		checkNext(t, append(slices.Clone(frame), frame...), api.OK)
	}
}

// P9.2: fewer than two bytes; each of them, and none.
func TestNextWithoutLength(t *testing.T) {
	checkNext(t, nil, api.ErrShort)
	checkNext(t, []byte{}, api.ErrShort)
	for value := range 256 {
		checkNext(t, []byte{byte(value)}, api.ErrShort)
	}
}

// P9.2: each length that two bytes tell, whether there is something behind them or not.
func TestNextLength(t *testing.T) {
	for length := range 65536 {
		b := []byte{byte(length >> 8), byte(length)}
		want := api.ErrShort
		if length == 0 || length > 1000 {
			want = api.ErrKind
		}
		checkNext(t, b, want)
		checkNext(t, append(b, 0, 0, 0, 0), want)
	}
}

// P9.2: a length that may not be comes first, also if that many bytes and their checksum are there.
func TestNextLengthFirst(t *testing.T) {
	for _, length := range []int{0, 1001, 1002, 1255, 1256, 2000, 10000, 65535} {
		frame := slowFrame(make([]byte, length))
		checkNext(t, frame, api.ErrKind)
		checkNext(t, append(frame, frame...), api.ErrKind)
		checkNext(t, frame[:5], api.ErrKind)
	}
}

// P9.2: frames that are cut short anywhere, whether their checksum is right or not.
func TestNextCutShort(t *testing.T) {
	r := random()
	for _, length := range []int{1, 2, 30, 256, 1000} {
		frame := frameOf(t, anyBytes(r, length))
		wrong := slices.Clone(frame)
		wrong[3]++
		for cut := range frame {
			checkNext(t, frame[:cut], api.ErrShort)
			checkNext(t, wrong[:cut], api.ErrShort)
		}
		checkNext(t, wrong, api.ErrSum)
	}
}

// P9.2: each bit of the checksum wrong, and each of the body.
func TestNextWrongSum(t *testing.T) {
	r := random()
	for _, length := range []int{1, 2, 9, 1000} {
		frame := frameOf(t, anyBytes(r, length))
		for at := 2; at < len(frame); at++ {
			for bit := range 8 {
				wrong := slices.Clone(frame)
				wrong[at] ^= 1 << bit
				if body, rest, e := crc.Next(wrong); len(body) != 0 || len(rest) != 0 || e != api.ErrSum {
					t.Errorf("%d bytes, bit %d of byte %d: %x, %x, error %d", length, bit, at, body, rest, e)
				}
			}
		}
	}
}

// P9.2: checksums that a program might take for the right one.
func TestNextOtherSums(t *testing.T) {
	body := []byte("123456789")
	frame := frameOf(t, body)
	for _, sum := range []uint32{0, math.MaxUint32, 0x2639f4cb, ^uint32(0xcbf43926), crc.Of(append([]byte{0, 9}, body...)), crc.Of(body[:8])} {
		wrong := slices.Clone(frame)
		for i := range 4 {
			wrong[2+i] = byte(sum >> (24 - 8*i))
		}
		checkNext(t, wrong, api.ErrSum)
		checkNext(t, append(wrong, frame...), api.ErrSum)
	}
}

// P9.2: the length is not in the checksum; a wrong one that may be leaves a body with another checksum.
func TestNextWrongLength(t *testing.T) {
	frame := frameOf(t, []byte("123456789"))
	frame[1] = 8
	checkNext(t, frame, api.ErrSum)
	frame[1] = 10
	checkNext(t, frame, api.ErrShort)
	checkNext(t, append(frame, 0), api.ErrSum)
}

// P9.2: any bytes, of which some begin like a frame.
func TestNextOfAnyBytes(t *testing.T) {
	r := random()
	for range 20000 {
		b := anyBytes(r, r.IntN(40))
		if len(b) > 1 {
			b[0], b[1] = byte(r.IntN(6)/2), byte(r.IntN(40))
		}
		_, _, want := slowNext(b)
		checkNext(t, b, want)
	}
}

// P9.2: no frames.
func TestAllOfNone(t *testing.T) {
	checkAll(t, nil, nil, 0)
	checkAll(t, []byte{}, nil, 0)
	checkAll(t, []byte{0}, nil, 0)
	checkAll(t, []byte{0, 0}, nil, 0)
	checkAll(t, []byte{0, 1, 0, 0, 0, 0}, nil, 0)
	checkAll(t, make([]byte, 5000), nil, 0)
	checkAll(t, slices.Repeat([]byte{255}, 5000), nil, 0)
}

// P9.2: several frames, and each kind of what ends them: nothing, or a frame that is not correct, with a correct one behind it.
func TestAll(t *testing.T) {
	r := random()
	last := frameOf(t, []byte("last"))
	wrong := slices.Clone(last)
	wrong[9] ^= 16
	for many := range 8 {
		bodies := [][]byte{}
		for range many {
			bodies = append(bodies, anyBytes(r, []int{1, 2, 255, 256, 999, 1000}[r.IntN(6)]))
		}
		all := framesOf(t, bodies)
		checkAll(t, all, bodies, len(all))
		for cut := range last {
			checkAll(t, slices.Concat(all, last[:cut]), bodies, len(all))
		}
		for _, end := range [][]byte{wrong, {0, 0}, slowFrame(nil), {3, 233}, slowFrame(make([]byte, 1001))} {
			checkAll(t, slices.Concat(all, end), bodies, len(all))
			checkAll(t, slices.Concat(all, end, last), bodies, len(all))
		}
		more := append(slices.Clone(bodies), []byte("last"))
		checkAll(t, slices.Concat(all, last), more, len(all)+len(last))
	}
}

// P9.2: frames that are cut short anywhere, or have a wrong bit anywhere: those ahead of that place are left.
func TestAllUpToAPlace(t *testing.T) {
	r := random()
	bodies := [][]byte{anyBytes(r, 5), anyBytes(r, 1), anyBytes(r, 20), anyBytes(r, 300)}
	all, ends := framesOf(t, bodies), []int{0}
	for _, body := range bodies {
		ends = append(ends, ends[len(ends)-1]+6+len(body))
	}
	for at := range all {
		whole := 0
		for ends[whole+1] <= at {
			whole++
		}
		checkAll(t, all[:at], bodies[:whole], ends[whole])
		wrong := slices.Clone(all)
		wrong[at] ^= 1 << r.IntN(8)
		checkAll(t, wrong, bodies[:whole], ends[whole])
	}
}

// P9.2: All returns what Next returns, one after the other, for many frames.
func TestAllIsNextInTurn(t *testing.T) {
	r := random()
	for range 200 {
		all := []byte{}
		for range r.IntN(30) {
			frame := frameOf(t, anyBytes(r, 1+r.IntN(20)))
			if r.IntN(20) == 0 {
				frame[r.IntN(len(frame))]++
			}
			all = append(all, frame...)
		}
		bodies, left := [][]byte{}, all
		for {
			body, rest, e := crc.Next(left)
			if e != api.OK {
				break
			}
			bodies, left = append(bodies, body), rest
		}
		checkAll(t, all, bodies, len(all)-len(left))
	}
}

// P9.2: more frames than could be copied once for each of them.
func TestAllOfMany(t *testing.T) {
	const many = 200000
	all := slices.Repeat(frameOf(t, []byte{7}), many)
	bodies, n := crc.All(append(all, 0, 1))
	if len(bodies) != many || n != len(all) {
		t.Fatalf("%d bodies in %d bytes", len(bodies), n)
	}
	for i, body := range bodies {
		if !slices.Equal(body, []byte{7}) {
			t.Fatalf("body %d: %x", i, body)
		}
	}
}

// P9.3: each pattern of up to three bits within 32 consecutive ones, all of them, and many others, at every place.
func TestInverted(t *testing.T) {
	r := random()
	patterns := []uint32{math.MaxUint32, 0xedb88320, 0xdb710641, 0x04c11db7, 0x55555555, 0xff, 0xffff}
	for i := range 32 {
		for j := range i + 1 {
			for k := range j + 1 {
				patterns = append(patterns, 1<<i|1<<j|1<<k)
			}
		}
	}
	for range 2000 {
		patterns = append(patterns, max(r.Uint32(), 1))
	}
	for _, b := range [][]byte{make([]byte, 4), anyBytes(r, 4), anyBytes(r, 5), slices.Repeat([]byte{255}, 9), anyBytes(r, 23)} {
		sum := crc.Of(b)
		for from := range 8*len(b) - 31 {
			for _, pattern := range patterns {
				if crc.Of(invert(b, from, pattern)) == sum {
					t.Errorf("%x: the bits %x from bit %d on do not change %x", b, pattern, from, sum)
				}
			}
		}
	}
}

// P9.3: strings of fewer than 32 bits: no two of up to two bytes have the same checksum, nor some of three.
func TestInvertedShort(t *testing.T) {
	for length := 1; length <= 2; length++ {
		seen := map[uint32]int{}
		for value := range 1 << (8 * length) {
			sum := crc.Of([]byte{byte(value), byte(value >> 8)}[:length])
			if other, ok := seen[sum]; ok {
				t.Errorf("%x and %x of %d bytes have the checksum %x", other, value, length, sum)
			}
			seen[sum] = value
		}
	}
	r := random()
	for range 20 {
		b := anyBytes(r, 3)
		sum := crc.Of(b)
		for range 5000 {
			pattern := max(r.Uint32()>>8, 1)
			if crc.Of(invert(b, 0, pattern)) == sum {
				t.Errorf("%x: the bits %x do not change %x", b, pattern, sum)
			}
		}
	}
}

// rank is how many of these numbers are independent, with exclusive or as the sum.
func rank(numbers []uint32) int {
	basis := []uint32{}
	for _, number := range numbers {
		for _, element := range basis {
			// The greatest bit of the element is in the number if the exclusive or is less.
			number = min(number, number^element)
		}
		if number != 0 {
			basis = append(basis, number)
		}
	}
	return len(basis)
}

// P9.3: what inverting several bits changes is the exclusive or of what each of them changes. At every place, what 32
// consecutive bits change is independent, so that no pattern of them changes nothing.
func TestInvertedIsIndependent(t *testing.T) {
	r := random()
	for _, b := range [][]byte{anyBytes(r, 4), anyBytes(r, 70), make([]byte, 33), anyBytes(r, 1000)} {
		sum, changes := crc.Of(b), []uint32{}
		for bit := range 8 * len(b) {
			wrong := slices.Clone(b)
			wrong[bit/8] ^= 1 << (bit % 8)
			changes = append(changes, crc.Of(wrong)^sum)
		}
		for from := range len(changes) - 31 {
			if got := rank(changes[from : from+32]); got != 32 {
				t.Errorf("%d bytes: of the 32 bits from bit %d on, %d are independent", len(b), from, got)
			}
		}
		for range 300 {
			from, pattern, want := r.IntN(len(changes)-31), r.Uint32(), sum
			for place := range 32 {
				want ^= changes[from+place] * (pattern >> place & 1)
			}
			if got := crc.Of(invert(b, from, pattern)); got != want {
				t.Errorf("%d bytes: the bits %x from bit %d on: %x, not %x", len(b), pattern, from, got, want)
			}
		}
	}
}

// P9.2, P9.3: a frame whose body is inverted within 32 consecutive bits is not correct, at any place.
func TestInvertedBody(t *testing.T) {
	r := random()
	first, rest := frameOf(t, []byte("ab")), frameOf(t, []byte("cd"))
	frame := frameOf(t, anyBytes(r, 50))
	for from := 48; from <= 8*len(frame)-32; from++ {
		for range 20 {
			wrong := invert(frame, from, max(r.Uint32(), 1))
			checkNext(t, wrong, api.ErrSum)
			checkAll(t, slices.Concat(first, wrong, rest), [][]byte{[]byte("ab")}, len(first))
		}
	}
}

// guarded is these bytes with others beyond their length, and all of that memory.
func guarded(b []byte, beyond byte) (part, whole []byte) {
	whole = append(slices.Clone(b), slices.Repeat([]byte{beyond}, 40)...)
	return whole[:len(b)], whole
}

// R3: arguments are not modified, and the memory beyond their length is neither read nor written.
func TestArguments(t *testing.T) {
	r := random()
	frame := frameOf(t, anyBytes(r, 20))
	for _, b := range [][]byte{{}, {0}, frame[:2], frame[:25], frame, slices.Concat(frame, frame), slices.Concat(frame, frame[:9])} {
		sum, more := crc.Of(b), crc.More(77, b)
		framed, framedErrno := crc.Frame(b)
		body, rest, e := crc.Next(b)
		bodies, n := crc.All(b)
		for _, beyond := range []byte{0, 1, 255} {
			part, whole := guarded(b, beyond)
			before := slices.Clone(whole)
			if crc.Of(part) != sum || crc.More(77, part) != more {
				t.Errorf("%x: Of or More depends on what is beyond", b)
			}
			if got, errno := crc.Frame(part); !slices.Equal(got, framed) || errno != framedErrno {
				t.Errorf("%x: Frame: %x, %d", b, got, errno)
			}
			if gotBody, gotRest, errno := crc.Next(part); !slices.Equal(gotBody, body) || !slices.Equal(gotRest, rest) || errno != e {
				t.Errorf("%x: Next: %x, %x, %d", b, gotBody, gotRest, errno)
			}
			checkAll(t, part, bodies, n)
			if !slices.Equal(whole, before) {
				t.Errorf("%x: changed to %x", b, whole)
			}
		}
	}
}

// P9.2: a frame that would be complete with the memory beyond the length is not.
func TestFrameBeyondTheLength(t *testing.T) {
	frame := frameOf(t, []byte("123456789"))
	for cut := range frame {
		checkNext(t, frame[:cut], api.ErrShort)
		checkAll(t, frame[:cut], nil, 0)
	}
}

// overwrite changes all memory that a slice reaches, that beyond its length too.
func overwrite(b []byte) {
	b = b[:cap(b)]
	for i := range b {
		b[i] ^= 0xa5
	}
}

// R3: a frame does not share memory with its body.
func TestFrameIsNewMemory(t *testing.T) {
	body := []byte("123456789")
	frame := frameOf(t, body)
	want := slices.Clone(frame)
	overwrite(body)
	if !slices.Equal(frame, want) {
		t.Errorf("the body is changed, and the frame is %x", frame)
	}
	body = []byte("123456789")
	first, second := frameOf(t, body), frameOf(t, body)
	overwrite(first)
	if string(body) != "123456789" || !slices.Equal(second, want) {
		t.Errorf("the frame is changed, and the body is %q, another frame %x", body, second)
	}
}

// P9.2: what Next returns shares memory neither with b nor with each other, also if nothing is left.
func TestNextIsNewMemory(t *testing.T) {
	frame := frameOf(t, []byte("123456789"))
	for _, wantRest := range []string{"", "rest"} {
		b := append(slices.Clone(frame), wantRest...)
		before := slices.Clone(b)
		body, rest, _ := crc.Next(b)
		overwrite(b)
		if string(body) != "123456789" || string(rest) != wantRest {
			t.Errorf("b is changed, and Next returned %q, %q", body, rest)
		}
		b = slices.Clone(before)
		body, rest, _ = crc.Next(b)
		overwrite(body)
		if string(rest) != wantRest || !slices.Equal(b, before) {
			t.Errorf("the body is changed, the rest is %q, b is %x", rest, b)
		}
		body, rest, _ = crc.Next(b)
		overwrite(rest)
		if string(body) != "123456789" || !slices.Equal(b, before) {
			t.Errorf("the rest is changed, the body is %q, b is %x", body, b)
		}
	}
}

// P9.2: what All returns shares memory neither with b nor with each other.
func TestAllIsNewMemory(t *testing.T) {
	want := [][]byte{[]byte("1"), []byte("23"), []byte(strings.Repeat("4", 100)), []byte("5")}
	b := framesOf(t, want)
	before := slices.Clone(b)
	for i := range want {
		bodies, _ := crc.All(b)
		overwrite(bodies[i])
		for j := range want {
			if i != j && !slices.Equal(bodies[j], want[j]) {
				t.Errorf("body %d is changed, and body %d is %q", i, j, bodies[j])
			}
		}
		if !slices.Equal(b, before) {
			t.Errorf("body %d is changed, and b is %x", i, b)
		}
	}
	bodies, _ := crc.All(b)
	overwrite(b)
	if !slices.EqualFunc(bodies, want, slices.Equal) {
		t.Errorf("b is changed, and All returned %q", bodies)
	}
}

// R6: calls do not depend on earlier ones, whatever these returned.
func TestCallsAgain(t *testing.T) {
	b := []byte("123456789")
	frame := frameOf(t, b)
	for _, between := range [][]byte{nil, {0}, {0, 0}, {1, 2, 3, 4, 5, 6, 7, 8}, frame, make([]byte, 3000)} {
		crc.Of(between)
		crc.More(9, between)
		crc.Frame(between)
		crc.Next(between)
		crc.All(between)
		if crc.Of(b) != 0xcbf43926 || !slices.Equal(frameOf(t, b), frame) {
			t.Errorf("after calls with %x: %x, %x", between, crc.Of(b), frameOf(t, b))
		}
		checkNext(t, frame, api.OK)
		checkAll(t, frame, [][]byte{b}, len(frame))
	}
}
