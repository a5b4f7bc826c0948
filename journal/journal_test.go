package journal_test

import (
	"hash/crc32"
	"math"
	"math/rand/v2"
	"slices"
	"testing"

	"shroud/api"
	"shroud/crc"
	"shroud/journal"
)

// longest is how many bytes a record has at most.
const longest = 1000

// random is a source with a fixed seed, so that each run tests the same.
func random() *rand.Rand { return rand.New(rand.NewPCG(12, 1000)) }

// anyBytes are bytes at random.
func anyBytes(r *rand.Rand, many int) []byte {
	b := make([]byte, many)
	for i := range b {
		b[i] = byte(r.Uint32())
	}
	return b
}

// anyLength is a number of bytes, of which most may be that of a record.
func anyLength(r *rand.Rand) int {
	if r.IntN(8) == 0 {
		return []int{0, 1, 255, 256, longest - 1, longest, longest + 1, 2 * longest}[r.IntN(8)]
	}
	return 1 + r.IntN(20)
}

// slowFrame is the frame of a body, of any length.
func slowFrame(body []byte) []byte {
	length, sum := len(body), crc32.ChecksumIEEE(body)
	frame := []byte{byte(length / 256), byte(length % 256)}
	for _, unit := range []uint32{1 << 24, 1 << 16, 1 << 8, 1} {
		frame = append(frame, byte(sum/unit%256))
	}
	return append(frame, body...)
}

// framesOf is the frames of records, one after the other.
func framesOf(records [][]byte) []byte {
	all := []byte{}
	for _, record := range records {
		all = append(all, slowFrame(record)...)
	}
	return all
}

// texts are records of these letters.
func texts(letters ...string) [][]byte {
	records := [][]byte{}
	for _, text := range letters {
		records = append(records, []byte(text))
	}
	return records
}

// model is what a log is to be: its records, of which the first ones are durable.
type model struct {
	records [][]byte
	fast    int
}

// disk is what the disk of the log is to be.
func (m model) disk() journal.Disk {
	return journal.Disk{Fast: framesOf(m.records[:m.fast]), Loose: framesOf(m.records[m.fast:])}
}

// crashed is what a log on that disk is to be after a crash: the frames that are left whole.
func (m model) crashed(keep int, torn byte) model {
	whole, end := m.fast, 0
	for _, record := range m.records[m.fast:] {
		end += 6 + len(record)
		if end > keep || end == keep && torn != 0 {
			break
		}
		whole++
	}
	return model{records: m.records[:whole], fast: whole}
}

// sameDisks tells whether two disks have the same durable and the same loose bytes.
func sameDisks(a, b journal.Disk) bool {
	return slices.Equal(a.Fast, b.Fast) && slices.Equal(a.Loose, b.Loose)
}

// copyOf is the same disk in new memory.
func copyOf(d journal.Disk) journal.Disk {
	return journal.Disk{Fast: slices.Clone(d.Fast), Loose: slices.Clone(d.Loose)}
}

// checkDisk takes a disk with these bytes alone.
func checkDisk(t *testing.T, got, want journal.Disk) {
	t.Helper()
	if !sameDisks(got, want) {
		t.Errorf("a disk with %x and %x, not %x and %x", got.Fast, got.Loose, want.Fast, want.Loose)
	}
}

// checkLog takes what a log is to be alone, from each of its methods that tells something.
func checkLog(t *testing.T, l *journal.Log, want model) {
	t.Helper()
	if got := l.Records(); !slices.EqualFunc(got, want.records, slices.Equal) {
		t.Errorf("Records: %x, not %x", got, want.records)
	}
	if got := l.Fast(); got != want.fast {
		t.Errorf("Fast: %d, not %d", got, want.fast)
	}
	checkDisk(t, l.Disk(), want.disk())
}

// logOf is a log of records, of which the first ones are synchronized.
func logOf(t *testing.T, records [][]byte, fast int) *journal.Log {
	t.Helper()
	l := journal.Open(journal.Disk{})
	for i, record := range records {
		if i == fast {
			l.Sync()
		}
		if e := l.Append(record); e != api.OK {
			t.Fatalf("Append of %d bytes: error %d", len(record), e)
		}
	}
	if fast == len(records) {
		l.Sync()
	}
	return l
}

// The example of the chapter.
func TestExample(t *testing.T) {
	l := journal.Open(journal.Disk{})
	l.Append([]byte("a"))
	l.Sync()
	l.Append([]byte("b"))
	d := l.Disk().Crash(3, 0)
	a := []byte{0, 1, 0xe8, 0xb7, 0xbe, 0x43, 'a'}
	checkDisk(t, d, journal.Disk{Fast: append(a, 0, 1, 0x71)})
	found := journal.Open(d)
	if got := found.Records(); len(got) != 1 || string(got[0]) != "a" || found.Fast() != 1 {
		t.Errorf("found %q, of which %d are durable", got, found.Fast())
	}
	checkDisk(t, found.Disk(), journal.Disk{Fast: a})
}

// P12.1: disks with and without bytes of each kind, and no bytes, one and many to write.
func TestWrite(t *testing.T) {
	r := random()
	for _, fast := range []int{0, 1, 50} {
		for _, loose := range []int{0, 1, 50} {
			for _, many := range []int{0, 1, 7, longest + 1, 100000} {
				d, b := journal.Disk{Fast: anyBytes(r, fast), Loose: anyBytes(r, loose)}, anyBytes(r, many)
				checkDisk(t, d.Write(b), journal.Disk{Fast: d.Fast, Loose: slices.Concat(d.Loose, b)})
				twice := journal.Disk{Fast: d.Fast, Loose: slices.Concat(d.Loose, b, b)}
				checkDisk(t, d.Write(b).Write(b), twice)
			}
		}
	}
}

// P12.1: disks with and without bytes of each kind, nothing loose among them.
func TestSync(t *testing.T) {
	r := random()
	for _, fast := range []int{0, 1, 50, 5000} {
		for _, loose := range []int{0, 1, 50, 5000} {
			d := journal.Disk{Fast: anyBytes(r, fast), Loose: anyBytes(r, loose)}
			want := journal.Disk{Fast: slices.Concat(d.Fast, d.Loose)}
			checkDisk(t, d.Sync(), want)
			checkDisk(t, d.Sync().Sync(), want)
			checkDisk(t, d.Sync().Write([]byte{7}).Sync(), journal.Disk{Fast: append(want.Fast, 7)})
		}
	}
}

// checkCrash takes those of the loose bytes that are kept, the last one with torn combined, byte by byte.
func checkCrash(t *testing.T, d journal.Disk, keep int, torn byte) {
	t.Helper()
	want := slices.Clone(d.Fast)
	for i, b := range d.Loose {
		if i < keep {
			if i == keep-1 || i == len(d.Loose)-1 {
				b ^= torn
			}
			want = append(want, b)
		}
	}
	if got := d.Crash(keep, torn); !sameDisks(got, journal.Disk{Fast: want}) {
		t.Errorf("Crash(%d, %x) of %x and %x: %x and %x, not %x", keep, torn, d.Fast, d.Loose, got.Fast, got.Loose, want)
	}
}

// P12.1: keep below 0, 0, 1, just below, at and above the number of loose bytes, and each torn.
func TestCrash(t *testing.T) {
	r := random()
	for _, fast := range []int{0, 1, 20} {
		for _, loose := range []int{0, 1, 2, 3, 20, 300} {
			d := journal.Disk{Fast: anyBytes(r, fast), Loose: anyBytes(r, loose)}
			keeps := []int{math.MinInt, math.MinInt + 1, -loose - 1, -loose, -2, -1, 0, 1, 2, loose - 1, loose, loose + 1}
			keeps = append(keeps, 2*loose, loose+fast, 1<<32, 1<<32+1, math.MaxInt-1, math.MaxInt, r.IntN(loose+1))
			for _, keep := range keeps {
				for torn := range 256 {
					checkCrash(t, d, keep, byte(torn))
				}
			}
		}
	}
}

// P12.1: no loose byte is left, so that torn changes nothing, no durable byte either.
func TestCrashKeepsNothing(t *testing.T) {
	for _, fast := range []string{"", "f", "fast"} {
		for _, loose := range []string{"", "l", "loose"} {
			d := journal.Disk{Fast: []byte(fast), Loose: []byte(loose)}
			for _, keep := range []int{math.MinInt, -5, -1, 0} {
				checkDisk(t, d.Crash(keep, 255), journal.Disk{Fast: []byte(fast)})
			}
			if loose == "" {
				checkDisk(t, d.Crash(1, 255), d)
				checkDisk(t, d.Crash(math.MaxInt, 255), d)
			}
		}
	}
}

// P12.1: what is left is durable: another crash takes nothing of it.
func TestCrashAgain(t *testing.T) {
	d := journal.Disk{Fast: []byte("fast"), Loose: []byte("loose")}
	for keep := range 7 {
		left := d.Crash(keep, 1)
		checkDisk(t, left.Crash(0, 255), left)
		checkDisk(t, left.Crash(3, 255), left)
		checkDisk(t, left.Sync(), left)
	}
}

// P12.2: a disk without bytes is a log without records.
func TestOpenOfNothing(t *testing.T) {
	for _, fast := range [][]byte{nil, {}} {
		for _, loose := range [][]byte{nil, {}} {
			l := journal.Open(journal.Disk{Fast: fast, Loose: loose})
			if l == nil {
				t.Fatal("no log")
			}
			checkLog(t, l, model{})
			l.Sync()
			checkLog(t, l, model{})
			if e := l.Append([]byte("a")); e != api.OK {
				t.Errorf("Append: error %d", e)
			}
			checkLog(t, l, model{records: texts("a")})
		}
	}
}

// someRecords are records of different lengths, the shortest and the longest among them.
func someRecords(r *rand.Rand) [][]byte {
	return [][]byte{anyBytes(r, 5), anyBytes(r, 1), anyBytes(r, longest), anyBytes(r, 20), []byte{0}, anyBytes(r, 300)}
}

// checkOpen takes these records alone, all of them durable, wherever the durable bytes of the disk end.
func checkOpen(t *testing.T, all []byte, records [][]byte, cuts ...int) {
	t.Helper()
	want := model{records: records, fast: len(records)}
	for _, cut := range append(cuts, 0, len(all)/2, len(all)) {
		checkLog(t, journal.Open(journal.Disk{Fast: all[:cut], Loose: all[cut:]}), want)
	}
}

// P12.2: frames of which the durable bytes have all, a part or nothing; loose bytes complete what they begin.
func TestOpen(t *testing.T) {
	r := random()
	for many := range 6 {
		records := someRecords(r)[:many]
		all := framesOf(records)
		cuts := []int{}
		for cut := range all {
			cuts = append(cuts, cut)
		}
		checkOpen(t, all, records, cuts...)
	}
}

// wholeUpTo is how many of the frames of these records end at most at a place.
func wholeUpTo(records [][]byte, at int) int {
	whole, end := 0, 0
	for _, record := range records {
		end += 6 + len(record)
		if end > at {
			break
		}
		whole++
	}
	return whole
}

// P12.2: disks that end anywhere within a frame, or behind one.
func TestOpenCutShort(t *testing.T) {
	records := someRecords(random())
	all := framesOf(records)
	for end := range len(all) + 1 {
		checkOpen(t, all[:end], records[:wholeUpTo(records, end)], max(end-1, 0), max(end-7, 0))
	}
}

// P12.2: a changed byte anywhere: neither the record that it is in is left, nor those behind it.
func TestOpenChanged(t *testing.T) {
	r := random()
	records := someRecords(r)
	all := framesOf(records)
	for at := range all {
		wrong := slices.Clone(all)
		wrong[at] ^= byte(1 + r.IntN(255))
		checkOpen(t, wrong, records[:wholeUpTo(records, at)], at, at+1)
	}
}

// P12.2: what may be behind the frames: bytes of all kinds, and frames behind them that are correct.
func TestOpenWithARest(t *testing.T) {
	r := random()
	records := texts("a", "bc", "def")
	all, more := framesOf(records), framesOf(texts("more"))
	wrong := framesOf(texts("wrong"))
	wrong[7] ^= 1
	rests := [][]byte{{0}, {0, 0}, {0, 1}, {3, 232}, {3, 233}, {255, 255}, slowFrame(nil), slowFrame(make([]byte, longest+1))}
	rests = append(rests, wrong, make([]byte, 5000), all[1:], more[:len(more)-1])
	for _, rest := range rests {
		for _, behind := range [][]byte{nil, more} {
			checkOpen(t, slices.Concat(all, rest, behind), records, len(all), len(all)+1)
			checkOpen(t, slices.Concat(rest, all, behind), nil, len(rest))
		}
	}
	for range 1000 {
		b := slices.Concat(all, anyBytes(r, r.IntN(60)))
		found, end := crc.All(b)
		checkOpen(t, b, found, r.IntN(len(b)+1))
		checkDisk(t, journal.Open(journal.Disk{Loose: b}).Disk(), journal.Disk{Fast: b[:end]})
	}
}

// P12.2: after a rest is cut off, new frames are right behind the ones that are left, and are found again.
func TestAppendAfterARest(t *testing.T) {
	r := random()
	records := texts("a", "bc")
	for rest := range 40 {
		b := append(framesOf(records), slowFrame(anyBytes(r, 40))[:rest]...)
		for cut := range len(b) + 1 {
			l := journal.Open(journal.Disk{Fast: b[:cut], Loose: b[cut:]})
			if e := l.Append([]byte("new")); e != api.OK {
				t.Fatalf("Append: error %d", e)
			}
			want := model{records: texts("a", "bc", "new"), fast: 2}
			checkLog(t, l, want)
			checkOpen(t, l.Disk().Sync().Fast, want.records)
			l.Sync()
			want.fast = 3
			checkLog(t, l, want)
		}
	}
}

// P12.2: each length that a record may have, and those beside them, for Append.
func TestAppend(t *testing.T) {
	r := random()
	l, want := journal.Open(journal.Disk{}), model{}
	for _, length := range []int{1, 0, 2, 255, 256, longest + 1, longest, longest + 2, longest - 1, 65536, 65537, 65536 + longest, 1} {
		b := anyBytes(r, length)
		e := l.Append(b)
		if length >= 1 && length <= longest {
			want.records = append(want.records, b)
			if e != api.OK {
				t.Errorf("Append of %d bytes: error %d", length, e)
			}
		} else if e != api.ErrArg {
			t.Errorf("Append of %d bytes: error %d", length, e)
		}
		checkLog(t, l, want)
	}
	for length := range longest + 2 {
		l, records, errno := journal.Open(journal.Disk{}), 1, api.OK
		if length == 0 || length > longest {
			records, errno = 0, api.ErrArg
		}
		if e := l.Append(make([]byte, length)); e != errno || len(l.Records()) != records {
			t.Errorf("Append of %d bytes: error %d, %d records", length, e, len(l.Records()))
		}
	}
	if e := l.Append(nil); e != api.ErrArg {
		t.Errorf("Append of nil: error %d", e)
	}
	checkLog(t, l, want)
}

// P12.2: equal records are records each, and so are those that look like frames.
func TestAppendOfEqualRecords(t *testing.T) {
	frame := slowFrame([]byte("a"))
	records := [][]byte{{0}, {0}, frame, frame, framesOf([][]byte{frame, frame}), {0}}
	for fast := range len(records) + 1 {
		l := logOf(t, records, fast)
		checkLog(t, l, model{records: records, fast: fast})
		checkOpen(t, l.Disk().Sync().Fast, records)
	}
}

// compactable are logs without records, with durable ones, with loose ones, with both, and one that was compacted.
func compactable(t *testing.T) []*journal.Log {
	t.Helper()
	records := texts("a", "bc", "def")
	compacted := logOf(t, records, 1)
	if e := compacted.Compact([]byte("ghij")); e != api.OK {
		t.Fatalf("Compact: error %d", e)
	}
	return []*journal.Log{logOf(t, nil, 0), logOf(t, records, 3), logOf(t, records, 0), logOf(t, records, 1), compacted}
}

// P12.2: Compact with no records ahead of it, with durable ones and with loose ones.
func TestCompact(t *testing.T) {
	r := random()
	for _, length := range []int{1, 2, 255, 256, longest - 1, longest} {
		for _, l := range compactable(t) {
			b := anyBytes(r, length)
			if e := l.Compact(b); e != api.OK {
				t.Errorf("Compact of %d bytes: error %d", length, e)
			}
			want := model{records: [][]byte{b}, fast: 1}
			checkLog(t, l, want)
			checkLog(t, journal.Open(l.Disk().Crash(0, 9)), want)
			l.Sync()
			checkLog(t, l, want)
			if e := l.Append([]byte("next")); e != api.OK {
				t.Errorf("Append: error %d", e)
			}
			want.records = append(want.records, []byte("next"))
			checkLog(t, l, want)
		}
	}
}

// P12.2: no record may have these lengths; the log stays as it is.
func TestCompactOfNoRecord(t *testing.T) {
	for _, length := range []int{0, longest + 1, longest + 2, 65536, 65537, 65536 + longest} {
		for _, l := range compactable(t) {
			before := model{records: l.Records(), fast: l.Fast()}
			if e := l.Compact(make([]byte, length)); e != api.ErrArg {
				t.Errorf("Compact of %d bytes: error %d", length, e)
			}
			checkLog(t, l, before)
			if e := l.Compact(nil); e != api.ErrArg {
				t.Errorf("Compact of nil: error %d", e)
			}
			checkLog(t, l, before)
		}
	}
}

// P12.2: Sync with loose records, and with nothing loose.
func TestLogSync(t *testing.T) {
	records := texts("a", "bc", "def", "ghij")
	for many := range len(records) + 1 {
		for fast := range many + 1 {
			l := logOf(t, records[:many], fast)
			for range 3 {
				l.Sync()
				checkLog(t, l, model{records: records[:many], fast: many})
			}
		}
	}
}

// P12.3: Fast behind each call.
func TestFast(t *testing.T) {
	l := journal.Open(journal.Disk{})
	check := func(want int) {
		t.Helper()
		if got := l.Fast(); got != want {
			t.Errorf("Fast: %d, not %d", got, want)
		}
		if got, _ := crc.All(l.Disk().Fast); len(got) != want {
			t.Errorf("%d records are within the durable bytes, not %d", len(got), want)
		}
	}
	check(0)
	l.Append([]byte("a"))
	check(0)
	l.Append([]byte("b"))
	check(0)
	l.Sync()
	check(2)
	l.Append([]byte("c"))
	check(2)
	l.Append(nil)
	l.Compact(nil)
	check(2)
	l.Sync()
	l.Sync()
	check(3)
	l.Append([]byte("d"))
	l.Compact([]byte("e"))
	check(1)
	l.Append([]byte("f"))
	check(1)
	l.Sync()
	check(2)
	l.Append([]byte("g"))
	l = journal.Open(l.Disk())
	check(3)
}

// P12.3: a nil log.
func TestNilLog(t *testing.T) {
	var l *journal.Log
	for _, b := range [][]byte{nil, {}, {7}, make([]byte, longest), make([]byte, longest+1)} {
		if e := l.Append(b); e != api.ErrArg {
			t.Errorf("Append of %d bytes: error %d", len(b), e)
		}
		if e := l.Compact(b); e != api.ErrArg {
			t.Errorf("Compact of %d bytes: error %d", len(b), e)
		}
		l.Sync()
		if got := l.Records(); len(got) != 0 {
			t.Errorf("Records: %x", got)
		}
		if got := l.Fast(); got != 0 {
			t.Errorf("Fast: %d", got)
		}
		checkDisk(t, l.Disk(), journal.Disk{})
	}
}

// P12.4: every keep and every torn after several records, of which some, all or none are synchronized.
func TestCrashOfALog(t *testing.T) {
	records := texts("a", "bc", "\x00", "\x00\x00\x00", "def")
	for fast := range len(records) + 1 {
		l, want := logOf(t, records, fast), model{records: records, fast: fast}
		d := l.Disk()
		for keep := -2; keep <= len(d.Loose)+2; keep++ {
			for torn := range 256 {
				left := want.crashed(min(keep, len(d.Loose)), byte(torn))
				checkLog(t, journal.Open(d.Crash(keep, byte(torn))), left)
				if left.fast < fast {
					t.Fatalf("the test expects %d records of %d durable ones", left.fast, fast)
				}
			}
		}
		checkLog(t, l, want)
	}
}

// P12.4: records of up to 1000 bytes, and some of the values that the last byte is combined with.
func TestCrashOfLongRecords(t *testing.T) {
	r := random()
	records := [][]byte{anyBytes(r, longest), anyBytes(r, 256), make([]byte, longest), anyBytes(r, 255)}
	for fast := range len(records) + 1 {
		want := model{records: records, fast: fast}
		d := logOf(t, records, fast).Disk()
		for keep := range len(d.Loose) + 2 {
			for _, torn := range []byte{0, 1, 128, 255, byte(r.Uint32())} {
				left := want.crashed(min(keep, len(d.Loose)), torn)
				found := journal.Open(d.Crash(keep, torn))
				if got := found.Records(); !slices.EqualFunc(got, left.records, slices.Equal) || found.Fast() != left.fast {
					t.Fatalf("Crash(%d, %x) with %d of %d durable: %d records, not %d", keep, torn, fast, len(records), len(got), left.fast)
				}
			}
		}
	}
}

// P12.4: a log goes on after a crash, and crashes again, at each place.
func TestCrashesOneAfterTheOther(t *testing.T) {
	first, second := texts("a", "bc"), texts("def", "ghij")
	before := logOf(t, first, 1).Disk()
	for keep := range len(before.Loose) + 1 {
		for _, torn := range []byte{0, 255} {
			want := model{records: first, fast: 1}.crashed(keep, torn)
			for again := range len(framesOf(second)) + 1 {
				l := journal.Open(before.Crash(keep, torn))
				for _, record := range second {
					l.Append(record)
				}
				both := model{records: slices.Concat(want.records, second), fast: want.fast}
				checkLog(t, l, both)
				checkLog(t, journal.Open(l.Disk().Crash(again, torn)), both.crashed(again, torn))
			}
		}
	}
}

// P12.2 to P12.4: calls in any order, crashes among them.
func TestAnyCalls(t *testing.T) {
	r := random()
	for range 300 {
		l, want := journal.Open(journal.Disk{}), model{}
		for range 60 {
			b := anyBytes(r, anyLength(r))
			fits := len(b) >= 1 && len(b) <= longest
			switch r.IntN(12) {
			default:
				if e := l.Append(b); (e == api.OK) != fits {
					t.Fatalf("Append of %d bytes: error %d", len(b), e)
				}
				if fits {
					want.records = append(slices.Clone(want.records), b)
				}
			case 0, 1:
				l.Sync()
				want.fast = len(want.records)
			case 2:
				if e := l.Compact(b); (e == api.OK) != fits {
					t.Fatalf("Compact of %d bytes: error %d", len(b), e)
				}
				if fits {
					want = model{records: [][]byte{b}, fast: 1}
				}
			case 3, 4:
				d := l.Disk()
				keep, torn := r.IntN(len(d.Loose)+1), byte(r.Uint32()*r.Uint32N(2))
				l, want = journal.Open(d.Crash(keep, torn)), want.crashed(keep, torn)
			case 5:
				l = journal.Open(l.Disk())
				want.fast = len(want.records)
			}
			checkLog(t, l, want)
		}
	}
}

// P12.2: more records than the disk could be copied for, one by one, whether each of them is synchronized or not.
func TestManyRecords(t *testing.T) {
	const many = 200000
	for _, each := range []int{1, 1000, many + 1} {
		l, fast := journal.Open(journal.Disk{}), 0
		for i := range many {
			if e := l.Append([]byte{byte(i), byte(i >> 8)}); e != api.OK {
				t.Fatalf("Append: error %d", e)
			}
			if (i+1)%each == 0 {
				l.Sync()
				fast = i + 1
			}
			if l.Fast() != fast {
				t.Fatalf("Fast: %d, not %d", l.Fast(), fast)
			}
		}
		records, d := l.Records(), l.Disk()
		if len(records) != many || len(d.Fast) != 8*fast || len(d.Loose) != 8*(many-fast) {
			t.Fatalf("%d records in %d and %d bytes", len(records), len(d.Fast), len(d.Loose))
		}
		for i, record := range records {
			if !slices.Equal(record, []byte{byte(i), byte(i >> 8)}) {
				t.Fatalf("record %d: %x", i, record)
			}
		}
	}
}

// overwrite changes all memory that a slice reaches, that beyond its length too.
func overwrite(b []byte) {
	b = b[:cap(b)]
	for i := range b {
		b[i] ^= 0xa5
	}
}

// overwriteDisk changes all memory that a disk reaches.
func overwriteDisk(d journal.Disk) {
	overwrite(d.Fast)
	overwrite(d.Loose)
}

// parts is a disk whose bytes are in one piece of memory, with others beyond them, and all of that memory.
func parts(all []byte, cut int, beyond byte) (d journal.Disk, whole []byte) {
	whole = append(slices.Clone(all), slices.Repeat([]byte{beyond}, 40)...)
	return journal.Disk{Fast: whole[:cut], Loose: whole[cut:len(all)]}, whole
}

// results are what the calls on a disk make of it, the disk of a log on it, and what that goes on to.
func results(d journal.Disk, b []byte) []journal.Disk {
	l := journal.Open(d)
	disks := []journal.Disk{d.Write(b), d.Write(nil), d.Sync(), d.Crash(0, 1), d.Crash(1, 1), d.Crash(9, 1), d.Crash(99, 0), l.Disk()}
	l.Append(b)
	disks = append(disks, l.Disk())
	l.Sync()
	l.Append(b)
	disks = append(disks, l.Disk())
	l.Compact(b)
	return append(disks, l.Disk())
}

// P12.1 and R3: no call changes a disk or the bytes it is passed, nor reads or writes the memory beyond their length.
func TestArguments(t *testing.T) {
	all := append(framesOf(texts("a", "bc", "def")), slowFrame([]byte("rest"))[:8]...)
	b := []byte("new")
	for cut := range len(all) + 1 {
		want := results(journal.Disk{Fast: slices.Clone(all[:cut]), Loose: slices.Clone(all[cut:])}, b)
		for _, beyond := range []byte{0, 1, 's', 255} {
			d, whole := parts(all, cut, beyond)
			passed := append(slices.Clone(b), beyond, beyond, beyond)
			before, beforePassed := slices.Clone(whole), slices.Clone(passed)
			for i, got := range results(d, passed[:len(b)]) {
				checkDisk(t, got, want[i])
				overwriteDisk(got)
			}
			if !slices.Equal(whole, before) || !slices.Equal(passed, beforePassed) {
				t.Errorf("%x of which %d bytes are durable: changed to %x, and %x to %x", before, cut, whole, beforePassed, passed)
			}
		}
	}
}

// P12.1 and R3: loose bytes beyond the length, which would complete a frame, are not read.
func TestFrameBeyondTheLength(t *testing.T) {
	all := framesOf(texts("a", "bc"))
	for end := 7; end < len(all); end++ {
		for cut := range end + 1 {
			d := journal.Disk{Fast: all[:cut], Loose: all[cut:end]}
			checkLog(t, journal.Open(d), model{records: texts("a"), fast: 1})
			checkDisk(t, d.Crash(end+1, 0), journal.Disk{Fast: all[:end]})
		}
	}
}

// checkSharesNothing takes results alone that stay as they are when the disk, the bytes that are written, or the other part
// of the same result are changed, and do not change these either.
func checkSharesNothing(t *testing.T, d journal.Disk, b []byte) {
	t.Helper()
	want := []journal.Disk{}
	for _, result := range results(d, b) {
		want = append(want, copyOf(result))
	}
	disk, written := copyOf(d), slices.Clone(b)
	got := results(disk, written)
	overwriteDisk(disk)
	overwrite(written)
	for i := range want {
		checkDisk(t, got[i], want[i])
	}
	disk, written = copyOf(d), slices.Clone(b)
	durable, loose := results(disk, written), results(disk, written)
	for i := range want {
		overwrite(loose[i].Fast)
		overwrite(durable[i].Loose)
		checkDisk(t, journal.Disk{Fast: durable[i].Fast, Loose: loose[i].Loose}, want[i])
	}
	checkDisk(t, disk, d)
	if !slices.Equal(written, b) {
		t.Errorf("the results are changed, and what is written is %x", written)
	}
}

// P12.1: results share memory neither with the disk nor with the bytes that are written, nor do the two parts of a result.
func TestDisksShareNothing(t *testing.T) {
	for _, fast := range []string{"", "fast"} {
		for _, loose := range []string{"", "loose"} {
			for _, written := range []string{"", "written"} {
				checkSharesNothing(t, journal.Disk{Fast: []byte(fast), Loose: []byte(loose)}, []byte(written))
			}
		}
	}
}

// P12.3: a log shares memory neither with what it was made of nor with what it returned, and goes on as if nothing had
// been changed there.
func TestLogsShareNothing(t *testing.T) {
	all := framesOf(texts("a", "bc"))
	for cut := range len(all) + 1 {
		d, whole := parts(all, cut, 9)
		l, want := journal.Open(d), model{records: texts("a", "bc"), fast: 2}
		overwrite(whole)
		check := func() {
			t.Helper()
			checkLog(t, l, want)
			overwriteDisk(l.Disk())
			for _, record := range l.Records() {
				overwrite(record)
			}
			clear(l.Records())
			checkLog(t, l, want)
		}
		check()
		for _, text := range []string{"def", "ghij"} {
			b := append(make([]byte, 0, 50), text...)
			l.Append(b)
			overwrite(b)
			want.records = append(want.records, []byte(text))
			check()
		}
		l.Sync()
		want.fast = 4
		check()
		b := append(make([]byte, 0, 50), "all"...)
		l.Compact(b)
		overwrite(b)
		want = model{records: texts("all"), fast: 1}
		check()
		l.Append([]byte("k"))
		want.records = append(want.records, []byte("k"))
		check()
	}
}

// P12.3: what a log returned stays as it is, whatever is done with the log, or with other results.
func TestResultsStay(t *testing.T) {
	records := texts("a", "bc", "def")
	for fast := range len(records) + 1 {
		l, want := logOf(t, records, fast), model{records: records, fast: fast}
		found, d := l.Records(), l.Disk()
		check := func() {
			t.Helper()
			if !slices.EqualFunc(found, records, slices.Equal) {
				t.Errorf("the records are %x", found)
			}
			checkDisk(t, d, want.disk())
		}
		l.Append([]byte("x"))
		check()
		l.Sync()
		l.Append([]byte("yz"))
		check()
		l.Compact([]byte("c"))
		l.Append([]byte("x"))
		check()
		for i := range found {
			other := logOf(t, records, fast).Records()
			overwrite(other[i])
			for j := range other {
				if i != j && !slices.Equal(other[j], records[j]) {
					t.Errorf("record %d is changed, and record %d is %x", i, j, other[j])
				}
			}
		}
	}
}

// R6: logs on the same disk go on each on their own.
func TestLogsOnTheSameDisk(t *testing.T) {
	d := logOf(t, texts("a", "b"), 1).Disk()
	first, second := journal.Open(d), journal.Open(d)
	first.Append([]byte("first"))
	second.Append([]byte("other"))
	second.Sync()
	third := journal.Open(d)
	checkLog(t, first, model{records: texts("a", "b", "first"), fast: 2})
	checkLog(t, second, model{records: texts("a", "b", "other"), fast: 3})
	checkLog(t, third, model{records: texts("a", "b"), fast: 2})
	first.Compact([]byte("c"))
	checkLog(t, first, model{records: texts("c"), fast: 1})
	checkLog(t, second, model{records: texts("a", "b", "other"), fast: 3})
	checkDisk(t, d, model{records: texts("a", "b"), fast: 1}.disk())
}
