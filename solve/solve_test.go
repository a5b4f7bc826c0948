package solve_test

import (
	"math/rand/v2"
	"slices"
	"testing"

	"shroud/api"
	"shroud/gf"
	"shroud/solve"
)

// random is a source with a fixed seed, so that each run tests the same.
func random() *rand.Rand { return rand.New(rand.NewPCG(3, 256)) }

// clone is rows in memory of their own.
func clone(rows [][]byte) [][]byte {
	var l [][]byte
	for _, row := range rows {
		l = append(l, slices.Clone(row))
	}
	return l
}

// randomRows are any elements, many of them 0.
func randomRows(r *rand.Rand, many, length int) [][]byte {
	rows := make([][]byte, many)
	for i := range rows {
		rows[i] = make([]byte, length)
		for j := range rows[i] {
			if r.IntN(3) > 0 {
				rows[i][j] = byte(r.IntN(256))
			}
		}
	}
	return rows
}

// nonzero is any element but 0.
func nonzero(r *rand.Rand) byte { return byte(1 + r.IntN(255)) }

// satisfied tells whether values satisfy all equations.
func satisfied(f *gf.Field, rows [][]byte, values []byte) bool {
	for _, row := range rows {
		last := len(row) - 1
		sum := row[last]
		for i, value := range values {
			sum ^= f.Mul(row[i], value)
		}
		if len(values) != last || sum != 0 {
			return false
		}
	}
	return true
}

// checkSolve holds the result of Solve against what is wanted.
func checkSolve(t *testing.T, f *gf.Field, rows [][]byte, want []byte, wantErrno api.Errno) {
	t.Helper()
	got, e := solve.Solve(f, rows)
	if !slices.Equal(got, want) || e != wantErrno {
		t.Fatalf("Solve(%v): %v, %d, not %v, %d", rows, got, e, want, wantErrno)
	}
}

// checkRank holds the result of Rank against what is wanted.
func checkRank(t *testing.T, f *gf.Field, rows [][]byte, want int) {
	t.Helper()
	if got, e := solve.Rank(f, rows); got != want || e != api.OK {
		t.Fatalf("Rank(%v): %d, %d, not %d", rows, got, e, want)
	}
}

// P3.1 and the chapter's examples: equations and ranks by hand.
func TestExamples(t *testing.T) {
	f := gf.New()
	for _, c := range []struct {
		name string
		rows [][]byte
		want []byte
		e    api.Errno
		rank int
	}{
		{"the chapter's first", [][]byte{{1, 1, 3}, {0, 1, 2}}, []byte{1, 2}, api.OK, 2},
		{"the chapter's second", [][]byte{{0, 0, 1}}, nil, api.ErrNone, 1},
		{"one unknown", [][]byte{{0x57, 0xc1}}, []byte{0x83}, api.OK, 1},
		{"one unknown that is 0", [][]byte{{9, 0}}, []byte{0}, api.OK, 1},
		{"one unknown that is free", [][]byte{{0, 0}}, []byte{0}, api.OK, 0},
		{"one unknown in vain", [][]byte{{0, 5}}, nil, api.ErrNone, 1},
		{"one unknown, two values", [][]byte{{1, 5}, {1, 6}}, nil, api.ErrNone, 2},
		{"one unknown, one value twice", [][]byte{{1, 5}, {2, 10}}, []byte{5}, api.OK, 1},
		{"no unknown", [][]byte{{0}}, nil, api.OK, 0},
		{"no unknown, many times", [][]byte{{0}, {0}, {0}}, nil, api.OK, 0},
		{"no unknown in vain", [][]byte{{7}}, nil, api.ErrNone, 1},
		{"no unknown in vain at the end", [][]byte{{0}, {0}, {255}}, nil, api.ErrNone, 1},
		{"the last unknown free", [][]byte{{1, 1, 3}}, []byte{3, 0}, api.OK, 1},
		{"the first unknown free", [][]byte{{0, 1, 3}}, []byte{0, 3}, api.OK, 1},
		{"the middle unknown free", [][]byte{{2, 0, 0, 4}, {0, 0, 3, 3}}, []byte{2, 0, 1}, api.OK, 2},
		{"the middle unknown free, with coefficients", [][]byte{{1, 5, 0, 4}, {1, 5, 1, 7}}, []byte{4, 0, 3}, api.OK, 2},
		{"all unknowns free", [][]byte{{0, 0, 0, 0}, {0, 0, 0, 0}}, []byte{0, 0, 0}, api.OK, 0},
		{"two unknowns free", [][]byte{{0, 1, 9, 0, 6}, {0, 0, 0, 1, 8}}, []byte{0, 6, 0, 8}, api.OK, 2},
		{"all values 0", [][]byte{{1, 2, 0}, {3, 4, 0}}, []byte{0, 0}, api.OK, 2},
		{"rows to be exchanged", [][]byte{{0, 1, 2}, {1, 0, 9}}, []byte{9, 2}, api.OK, 2},
		{"a row of zeros first", [][]byte{{0, 0, 0}, {1, 1, 3}, {0, 1, 2}}, []byte{1, 2}, api.OK, 2},
		{"rows of zeros everywhere", [][]byte{{0, 0, 0}, {1, 1, 3}, {0, 0, 0}, {0, 1, 2}, {0, 0, 0}}, []byte{1, 2}, api.OK, 2},
		{"a row repeated", [][]byte{{1, 1, 3}, {1, 1, 3}}, []byte{3, 0}, api.OK, 1},
		{"a row that is the sum of two", [][]byte{{1, 1, 3}, {0, 1, 2}, {1, 0, 1}}, []byte{1, 2}, api.OK, 2},
		{"a row that is nearly the sum of two", [][]byte{{1, 1, 3}, {0, 1, 2}, {1, 0, 2}}, nil, api.ErrNone, 3},
		{"the same coefficients, another value", [][]byte{{1, 1, 3}, {1, 1, 2}}, nil, api.ErrNone, 2},
		{"in vain, ahead of the others", [][]byte{{0, 0, 1}, {1, 1, 3}, {0, 1, 2}}, nil, api.ErrNone, 3},
		{"in vain, twice", [][]byte{{0, 0, 1}, {0, 0, 2}, {1, 0, 3}}, nil, api.ErrNone, 2},
	} {
		t.Run(c.name, func(t *testing.T) {
			checkSolve(t, f, c.rows, c.want, c.e)
			checkRank(t, f, c.rows, c.rank)
		})
	}
}

// P3.1 and R2: no rows, empty rows, and rows whose lengths differ, ahead of equations that no values satisfy.
func TestErrArg(t *testing.T) {
	f := gf.New()
	for _, rows := range [][][]byte{
		nil,
		{},
		{nil},
		{{}},
		{nil, {}, nil},
		{{}, {1}},
		{{1}, {}},
		{{0}, nil},
		{{1, 2}, {1}},
		{{1}, {1, 2}},
		{{1, 2, 3}, {4, 5, 6}, {7, 8}},
		{{1, 2, 3}, {4, 5, 6}, {7, 8, 9, 0}},
		{{1, 2, 3}, {4, 5}, {7, 8, 9}},
		{{0, 0, 1}, {1, 1}},
		{{5}, {5}, {0, 0}},
	} {
		if got, e := solve.Solve(f, rows); len(got) != 0 || e != api.ErrArg {
			t.Errorf("Solve(%v): %v, %d", rows, got, e)
		}
		if got, e := solve.Rank(f, rows); got != 0 || e != api.ErrArg {
			t.Errorf("Rank(%v): %d, %d", rows, got, e)
		}
	}
}

// multiple tells whether b is a times one element, for all pairs.
func multiple(f *gf.Field, a, b []byte) bool {
	for times := range 256 {
		same := true
		for i := range a {
			same = same && f.Mul(a[i], byte(times)) == b[i]
		}
		if same {
			return true
		}
	}
	return false
}

// slowSolve tries all values of two unknowns, those that are free left 0.
func slowSolve(f *gf.Field, rows [][]byte) ([]byte, api.Errno) {
	var first, second []byte
	for _, row := range rows {
		first, second = append(first, row[0]), append(second, row[1])
	}
	// An unknown is free if its column can be made of those to its left.
	firstFree := multiple(f, make([]byte, len(rows)), first)
	secondFree := multiple(f, first, second)
	for x := range 256 {
		for y := range 256 {
			if firstFree && x != 0 || secondFree && y != 0 {
				continue
			}
			if values := []byte{byte(x), byte(y)}; satisfied(f, rows, values) {
				return values, api.OK
			}
		}
	}
	return nil, api.ErrNone
}

// P3.1: Solve finds what a search through all values finds.
func TestSolveBySearch(t *testing.T) {
	f, r := gf.New(), random()
	results := map[api.Errno]int{}
	for range 600 {
		rows := randomRows(r, 1+r.IntN(3), 3)
		if len(rows) > 1 && r.IntN(2) == 0 {
			// A row that depends on the first, but perhaps for its value.
			times := nonzero(r)
			for i := range rows[0] {
				rows[1][i] = f.Mul(rows[0][i], times)
			}
			rows[1][2] ^= byte(r.IntN(2))
		}
		want, e := slowSolve(f, rows)
		checkSolve(t, f, rows, want, e)
		results[e]++
	}
	if results[api.OK] < 100 || results[api.ErrNone] < 100 {
		t.Errorf("too few of a kind were tested: %v", results)
	}
}

// reducedRows are rows in the reduced row echelon form, and the columns of their leading elements.
func reducedRows(r *rand.Rand, rank, length int) (rows [][]byte, leading []int) {
	leading = r.Perm(length)[:rank]
	slices.Sort(leading)
	for _, column := range leading {
		row := make([]byte, length)
		row[column] = 1
		for i := column + 1; i < length; i++ {
			if !slices.Contains(leading, i) {
				row[i] = byte(r.IntN(256))
			}
		}
		rows = append(rows, row)
	}
	return rows, leading
}

// addMultiple adds a row, times an element, to another one.
func addMultiple(f *gf.Field, sum, row []byte, times byte) {
	for i := range sum {
		sum[i] ^= f.Mul(row[i], times)
	}
}

// scramble undoes a reduction: row operations that can be taken back, with rows added that depend on the others.
func scramble(f *gf.Field, r *rand.Rand, rows [][]byte, more int) [][]byte {
	length := len(rows[0])
	rows = clone(rows)
	for range more {
		rows = append(rows, make([]byte, length))
	}
	for range 4 * len(rows) {
		i, j := r.IntN(len(rows)), r.IntN(len(rows))
		if i != j {
			addMultiple(f, rows[i], rows[j], byte(r.IntN(256)))
		}
		times := nonzero(r)
		for k := range rows[i] {
			rows[i][k] = f.Mul(rows[i][k], times)
		}
	}
	r.Shuffle(len(rows), func(i, j int) { rows[i], rows[j] = rows[j], rows[i] })
	return rows
}

// P3.1: from scrambled rows, the reduced form is found again, that is its solution and its rank.
func TestScrambled(t *testing.T) {
	f, r := gf.New(), random()
	for range 3000 {
		length := 1 + r.IntN(9)
		rank := 1 + r.IntN(length)
		reduced, leading := reducedRows(r, rank, length)
		rows := scramble(f, r, reduced, r.IntN(4))
		checkRank(t, f, rows, rank)
		if leading[rank-1] == length-1 {
			checkSolve(t, f, rows, nil, api.ErrNone)
			continue
		}
		want := make([]byte, length-1)
		for i, column := range leading {
			want[column] = reduced[i][length-1]
		}
		checkSolve(t, f, rows, want, api.OK)
	}
}

// P3.1: the rank of rows is how many elements it takes to tell the sums of their multiples apart.
func TestRankBySpan(t *testing.T) {
	f, r := gf.New(), random()
	for range 60 {
		rows := randomRows(r, 2, 1+r.IntN(4))
		if r.IntN(2) == 0 {
			rows[1] = make([]byte, len(rows[0]))
			addMultiple(f, rows[1], rows[0], byte(r.IntN(256)))
		}
		span := map[[4]byte]bool{}
		for x := range 256 {
			for y := range 256 {
				var sum [4]byte
				for i := range rows[0] {
					sum[i] = f.Mul(byte(x), rows[0][i]) ^ f.Mul(byte(y), rows[1][i])
				}
				span[sum] = true
			}
		}
		checkRank(t, f, rows, map[int]int{1: 0, 256: 1, 65536: 2}[len(span)])
	}
}

// transposed are the columns of rows.
func transposed(rows [][]byte) [][]byte {
	columns := make([][]byte, len(rows[0]))
	for i := range columns {
		for _, row := range rows {
			columns[i] = append(columns[i], row[i])
		}
	}
	return columns
}

// P3.1: rows have the same rank as their columns, and no unknown is left out: the last element counts, too.
func TestRankTransposed(t *testing.T) {
	f, r := gf.New(), random()
	for range 1000 {
		reduced, _ := reducedRows(r, 1+r.IntN(4), 4+r.IntN(4))
		rows := scramble(f, r, reduced, r.IntN(4))
		checkRank(t, f, rows, len(reduced))
		checkRank(t, f, transposed(rows), len(reduced))
	}
	for last := range 256 {
		checkRank(t, f, [][]byte{{0, 0, byte(last)}}, min(last, 1))
	}
}

// P3.1: an equation has a solution just where the values don't raise the rank of the coefficients.
func TestSolveByRank(t *testing.T) {
	f, r := gf.New(), random()
	results := map[api.Errno]int{}
	for range 2000 {
		rows := randomRows(r, 1+r.IntN(5), 2+r.IntN(5))
		var coefficients [][]byte
		for _, row := range rows {
			coefficients = append(coefficients, row[:len(row)-1])
		}
		whole, _ := solve.Rank(f, rows)
		part, _ := solve.Rank(f, coefficients)
		want := api.OK
		if whole != part {
			want = api.ErrNone
		}
		if got, e := solve.Solve(f, rows); e != want || e == api.OK && !satisfied(f, rows, got) {
			t.Fatalf("Solve(%v): %v, %d, not %d", rows, got, e, want)
		}
		results[want]++
	}
	if results[api.OK] < 200 || results[api.ErrNone] < 200 {
		t.Errorf("too few of a kind were tested: %v", results)
	}
}

// P3.2: a solution satisfies all equations, where the values are those of some unknowns.
func TestSolveSatisfies(t *testing.T) {
	f, r := gf.New(), random()
	for range 2000 {
		rows := randomRows(r, 1+r.IntN(8), 1+r.IntN(8))
		last := len(rows[0]) - 1
		for _, row := range rows {
			row[last] = 0
			for i := range last {
				row[last] ^= f.Mul(row[i], byte(17*i+3))
			}
		}
		got, e := solve.Solve(f, rows)
		if e != api.OK || !satisfied(f, rows, got) {
			t.Fatalf("Solve(%v): %v, %d", rows, got, e)
		}
	}
}

// orders are all sequences of the numbers below many.
func orders(many int) [][]int {
	if many == 0 {
		return [][]int{nil}
	}
	var l [][]int
	for _, order := range orders(many - 1) {
		for place := range many {
			l = append(l, slices.Insert(slices.Clone(order), place, many-1))
		}
	}
	return l
}

// invariant are rows with a solution and without one, with free unknowns, rows of zeros, and rows of one element.
func invariant() [][][]byte {
	return [][][]byte{
		{{1, 1, 3}, {0, 1, 2}},
		{{0, 0, 1}},
		{{0}, {5}},
		{{0}, {0}},
		{{0, 0, 0, 0}, {0, 2, 7, 9}, {0, 0, 0, 0}, {0, 0, 5, 1}},
		{{1, 2, 3, 4, 5}, {0, 0, 0, 6, 7}, {1, 2, 3, 2, 2}, {8, 16, 24, 32, 40}},
		{{1, 2, 3, 4}, {5, 6, 7, 8}, {9, 10, 11, 12}, {13, 14, 15, 16}},
		{{0, 1, 1}, {1, 0, 1}, {1, 1, 1}},
		{{0, 0, 3, 1}, {0, 2, 0, 1}, {1, 0, 0, 1}},
	}
}

// P3.2: nothing changes if rows stand in another order.
func TestReordered(t *testing.T) {
	f := gf.New()
	for _, rows := range invariant() {
		want, e := solve.Solve(f, rows)
		rank, _ := solve.Rank(f, rows)
		for _, order := range orders(len(rows)) {
			var other [][]byte
			for _, i := range order {
				other = append(other, rows[i])
			}
			checkSolve(t, f, other, want, e)
			checkRank(t, f, other, rank)
		}
	}
}

// P3.2: nothing changes if a row is repeated, wherever it stands then, in the same memory or in its own.
func TestRepeated(t *testing.T) {
	f := gf.New()
	for _, rows := range invariant() {
		want, e := solve.Solve(f, rows)
		rank, _ := solve.Rank(f, rows)
		for _, row := range rows {
			for place := range len(rows) + 1 {
				for _, again := range [][]byte{row, slices.Clone(row)} {
					other := slices.Insert(slices.Clone(rows), place, again)
					checkSolve(t, f, other, want, e)
					checkRank(t, f, other, rank)
				}
			}
		}
	}
}

// P3.2: nothing changes if a row is multiplied by any element but 0.
func TestMultiplied(t *testing.T) {
	f := gf.New()
	for _, rows := range invariant() {
		want, e := solve.Solve(f, rows)
		rank, _ := solve.Rank(f, rows)
		for i := range rows {
			for times := 1; times < 256; times++ {
				other := clone(rows)
				for j := range other[i] {
					other[i][j] = f.Mul(other[i][j], byte(times))
				}
				checkSolve(t, f, other, want, e)
				checkRank(t, f, other, rank)
			}
		}
	}
}

// P3.2: reordered, repeated and multiplied at once, for any rows.
func TestInvariant(t *testing.T) {
	f, r := gf.New(), random()
	for range 2000 {
		rows := randomRows(r, 1+r.IntN(5), 1+r.IntN(6))
		want, e := solve.Solve(f, rows)
		rank, _ := solve.Rank(f, rows)
		other := append(clone(rows), slices.Clone(rows[r.IntN(len(rows))]))
		for _, row := range other {
			times := nonzero(r)
			for i := range row {
				row[i] = f.Mul(row[i], times)
			}
		}
		r.Shuffle(len(other), func(i, j int) { other[i], other[j] = other[j], other[i] })
		checkSolve(t, f, other, want, e)
		checkRank(t, f, other, rank)
	}
}

// P3.1: as many equations as there are elements, by the powers of each of them, have one solution.
func TestPowers(t *testing.T) {
	f := gf.New()
	want := make([]byte, 256)
	for i := range want {
		want[i] = byte(i*i + 7*i + 1)
	}
	var rows [][]byte
	for x := range 256 {
		row, value := make([]byte, 257), byte(0)
		for i := range 256 {
			row[i] = f.Pow(byte(x), uint64(i))
			value ^= f.Mul(row[i], want[i])
		}
		row[256] = value
		rows = append(rows, row)
	}
	checkSolve(t, f, rows, want, api.OK)
	checkRank(t, f, rows, 256)
}

// P3.1: many more rows than columns, and the other way round.
func TestTallWide(t *testing.T) {
	f := gf.New()
	var tall [][]byte
	for i := range 20000 {
		a, b := byte(i), byte(i/256)
		tall = append(tall, []byte{a, b, f.Mul(a, 200) ^ f.Mul(b, 100)})
	}
	checkSolve(t, f, tall, []byte{200, 100}, api.OK)
	checkRank(t, f, tall, 2)
	tall[19999][2] ^= 1
	checkSolve(t, f, tall, nil, api.ErrNone)
	checkRank(t, f, tall, 3)

	wide := [][]byte{make([]byte, 20000), make([]byte, 20000)}
	wide[0][300], wide[0][19998], wide[0][19999] = 2, 1, 6
	wide[1][19997], wide[1][19999] = 1, 9
	want := make([]byte, 19999)
	want[300], want[19997] = 3, 9
	checkSolve(t, f, wide, want, api.OK)
	checkRank(t, f, wide, 2)
}

// backed are rows in one memory that goes on beyond each of them, with bytes that are not 0.
func backed(rows [][]byte) (inside [][]byte, memory []byte) {
	for _, row := range rows {
		memory = append(append(memory, row...), 0xa5, 0x5a)
	}
	at := 0
	for _, row := range rows {
		inside = append(inside, memory[at:at+len(row)])
		at += len(row) + 2
	}
	return inside, memory
}

// R3: arguments are not modified, neither the rows nor their order, and what is beyond is neither read nor written.
func TestArguments(t *testing.T) {
	f := gf.New()
	for _, rows := range append(invariant(), [][]byte{{1, 2}, {1}}, [][]byte{{}}) {
		inside, memory := backed(rows)
		beyond := []byte{1, 2, 3}
		outer := append(slices.Clone(inside), beyond)
		given := outer[:len(rows)]
		wholeMemory := slices.Clone(memory)

		want, wantErrno := solve.Solve(f, clone(rows))
		got, e := solve.Solve(f, given)
		if !slices.Equal(got, want) || e != wantErrno {
			t.Errorf("Solve(%v): %v, %d with memory beyond, not %v, %d", rows, got, e, want, wantErrno)
		}
		rank, wantErrno := solve.Rank(f, clone(rows))
		if n, e := solve.Rank(f, given); n != rank || e != wantErrno {
			t.Errorf("Rank(%v): %d, %d with memory beyond, not %d, %d", rows, n, e, rank, wantErrno)
		}
		if !slices.Equal(memory, wholeMemory) || !slices.Equal(beyond, []byte{1, 2, 3}) {
			t.Errorf("elements of %v were modified", rows)
		}
		for i, row := range rows {
			if len(given[i]) != len(row) || len(row) > 0 && &given[i][0] != &inside[i][0] {
				t.Errorf("row %d of %v is another one", i, rows)
			}
		}
		if len(outer[len(rows)]) != 3 || &outer[len(rows)][0] != &beyond[0] {
			t.Errorf("the row beyond %v is another one", rows)
		}
	}
}

// R3 and R6: a solution is new memory, and the same call has the same result again.
func TestResults(t *testing.T) {
	f := gf.New()
	for _, rows := range invariant() {
		before := clone(rows)
		first, e := solve.Solve(f, rows)
		want := slices.Clone(first)
		first = first[:cap(first)]
		for i := range first {
			first[i] ^= 0xff
		}
		for i := range rows {
			if !slices.Equal(rows[i], before[i]) {
				t.Errorf("row %d of %v changed with the result", i, before)
			}
		}
		checkSolve(t, f, rows, want, e)
		checkSolve(t, gf.New(), rows, want, e)
	}
}
