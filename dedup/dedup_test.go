package dedup

import (
	"math"
	"math/big"
	"math/rand"
	"slices"
	"testing"

	"millrace/api"
)

// The signatures; and the numbers of what Look answers have no type of their own.
var (
	_ func([]api.Row) bool                            = Good
	_ func([]api.Row, int, int) int                   = Last
	_ func([]api.Row, int, int, int) int              = Look
	_ func([]api.Row, int, int, int) ([]api.Row, int) = Take
	_                                                 = [...]uint8{Fresh, Again, Gap, Ended}
	_                                                 = [...]float64{Fresh, Again, Gap, Ended}
)

const (
	most  = math.MaxInt
	least = math.MinInt
)

// rowsOf makes rows of three numbers each.
func rowsOf(numbers ...int) []api.Row {
	var rows []api.Row
	for l := range slices.Chunk(numbers, 3) {
		rows = append(rows, api.Row{Producer: l[0], Part: l[1], Last: l[2]})
	}
	return rows
}

// fullTable has all rows that a table may have.
func fullTable() []api.Row {
	var rows []api.Row
	for producer := range 64 {
		for part := range 8 {
			rows = append(rows, api.Row{Producer: producer, Part: part, Last: 100*producer + part})
		}
	}
	return rows
}

// anyTable has some of them, each with one chance in so many, and any Last.
func anyTable(r *rand.Rand, chance int) []api.Row {
	var rows []api.Row
	for _, row := range fullTable() {
		if r.Intn(chance) == 0 {
			row.Last = anyLast(r)
			rows = append(rows, row)
		}
	}
	return rows
}

func anyLast(r *rand.Rand) int {
	return []int{0, 0, 1, 2, 3, r.Intn(1000), 1 << 32, 1<<62 + 1, most - 1, most}[r.Intn(10)]
}

// anyRows are most often no table.
func anyRows(r *rand.Rand, many int) []api.Row {
	numbers := []int{0, 0, 1, 1, 2, 3, 7, 8, 62, 63, 64, -1, 1 << 32, 1 << 40, most, least}
	var rows []api.Row
	for range many {
		row := api.Row{Producer: numbers[r.Intn(len(numbers))], Part: numbers[r.Intn(len(numbers))], Last: anyLast(r)}
		if r.Intn(3) == 0 {
			row.Last = []int{-1, -2, -5, least, least + 1}[r.Intn(5)]
		}
		rows = append(rows, row)
	}
	return rows
}

// farNumbers are those that are no producer's or no partition's.
func farNumbers(many int) []int {
	return []int{many, many + 1, many + 2, 2 * many, 255, 256, 1 << 31, 1 << 32, 1<<32 + 1, 1 << 62, most - 1, most,
		-1, -2, -many, -256, -1 << 31, -1 << 32, 1 - 1<<32, least + 1, least}
}

func inRange(producer, part int) bool {
	return producer >= 0 && producer < 64 && part >= 0 && part < 8
}

// goodByRule holds each two rows against one another.
func goodByRule(rows []api.Row) bool {
	for at, row := range rows {
		if !inRange(row.Producer, row.Part) || row.Last < 0 {
			return false
		}
		for _, ahead := range rows[:at] {
			if ahead.Producer*8+ahead.Part >= row.Producer*8+row.Part {
				return false
			}
		}
	}
	return true
}

func lastByRule(rows []api.Row, producer, part int) int {
	for _, row := range rows {
		if row.Producer == producer && row.Part == part {
			return row.Last
		}
	}
	return -1
}

// lookByRule reckons with numbers that have no end.
func lookByRule(last, seq int) int {
	next := new(big.Int).Add(big.NewInt(int64(last)), big.NewInt(1))
	switch order := big.NewInt(int64(seq)).Cmp(next); {
	case seq == last && last == 9223372036854775807:
		return 4
	case order < 0:
		return 2
	case order == 0:
		return 1
	}
	return 3
}

// takeByRule puts a new row behind all others, and orders them. It isn't asked of rows that are no table and have no such row.
func takeByRule(rows []api.Row, producer, part, seq int) ([]api.Row, int) {
	if !inRange(producer, part) {
		return rows, 0
	}
	what := lookByRule(lastByRule(rows, producer, part), seq)
	if what != 1 {
		return rows, what
	}
	taken := slices.Clone(rows)
	for at, row := range taken {
		if row.Producer == producer && row.Part == part {
			taken[at].Last = seq
			return taken, 1
		}
	}
	taken = append(taken, api.Row{Producer: producer, Part: part, Last: seq})
	slices.SortFunc(taken, func(a, b api.Row) int { return a.Producer*8 + a.Part - b.Producer*8 - b.Part })
	return taken, 1
}

func has(rows []api.Row, producer, part int) bool {
	return slices.ContainsFunc(rows, func(row api.Row) bool { return row.Producer == producer && row.Part == part })
}

func wantTake(t *testing.T, rows []api.Row, producer, part, seq int, want []api.Row, what int) []api.Row {
	t.Helper()
	got, is := Take(rows, producer, part, seq)
	if !slices.Equal(got, want) || is != what {
		t.Errorf("Take(%v, %d, %d, %d) = %v, %d; want %v, %d", rows, producer, part, seq, got, is, want, what)
	}
	return got
}

// wantByRule asks all calls of the rows and the numbers.
func wantByRule(t *testing.T, rows []api.Row, producer, part, seq int) {
	t.Helper()
	if got, want := Good(rows), goodByRule(rows); got != want {
		t.Errorf("Good(%v) = %v", rows, got)
	}
	last := lastByRule(rows, producer, part)
	if got := Last(rows, producer, part); got != last {
		t.Errorf("Last(%v, %d, %d) = %d, want %d", rows, producer, part, got, last)
	}
	if got, want := Look(rows, producer, part, seq), lookByRule(last, seq); got != want {
		t.Errorf("Look(%v, %d, %d, %d) = %d, want %d", rows, producer, part, seq, got, want)
	}
	if !has(rows, producer, part) && !goodByRule(rows) {
		wantOneMore(t, rows, producer, part, seq)
		return
	}
	want, what := takeByRule(rows, producer, part, seq)
	wantTake(t, rows, producer, part, seq, want, what)
}

// wantOneMore: of rows that are no table, and without such a row, a fresh number's row stands at any place.
func wantOneMore(t *testing.T, rows []api.Row, producer, part, seq int) {
	t.Helper()
	if !inRange(producer, part) || seq != 0 {
		want, what := takeByRule(rows, producer, part, seq)
		wantTake(t, rows, producer, part, seq, want, what)
		return
	}
	got, what := Take(rows, producer, part, 0)
	at := slices.Index(got, api.Row{Producer: producer, Part: part})
	if what != 1 || at < 0 || !slices.Equal(slices.Delete(slices.Clone(got), at, at+1), rows) {
		t.Errorf("Take(%v, %d, %d, 0) = %v, %d", rows, producer, part, got, what)
	}
}

// P13.2: the numbers of what is answered.
func TestNumbers(t *testing.T) {
	if Fresh != 1 || Again != 2 || Gap != 3 || Ended != 4 {
		t.Errorf("%d, %d, %d, %d", Fresh, Again, Gap, Ended)
	}
}

// P13.2, P13.3: the chapter's example.
func TestExample(t *testing.T) {
	for seq, want := range map[int]int{0: Fresh, 1: Gap, -1: Again} {
		if got := Look(nil, 3, 1, seq); got != want {
			t.Errorf("Look(nil, 3, 1, %d) = %d, want %d", seq, got, want)
		}
	}
	rows := wantTake(t, nil, 3, 1, 0, rowsOf(3, 1, 0), Fresh)
	for seq, want := range map[int]int{0: Again, 1: Fresh, 3: Gap} {
		if got := Look(rows, 3, 1, seq); got != want {
			t.Errorf("Look(%v, 3, 1, %d) = %d, want %d", rows, seq, got, want)
		}
	}
	wantTake(t, rows, 3, 1, 0, rowsOf(3, 1, 0), Again)
	wantTake(t, rows, 3, 1, 1, rowsOf(3, 1, 1), Fresh)
	wantTake(t, rows, 3, 1, 3, rowsOf(3, 1, 0), Gap)
	wantTake(t, rows, 3, 2, 0, rowsOf(3, 1, 0, 3, 2, 0), Fresh)
}

// P13.1: tables and others, written by hand.
func TestGoodByHand(t *testing.T) {
	for _, rows := range [][]api.Row{
		nil, {}, rowsOf(0, 0, 0), rowsOf(63, 7, most), rowsOf(5, 3, 1<<32),
		rowsOf(0, 0, 9, 0, 1, 0), rowsOf(0, 7, 9, 1, 0, 0), rowsOf(0, 0, 0, 63, 7, 0),
		rowsOf(1, 2, 0, 1, 5, 0, 2, 1, 0, 2, 2, 0, 9, 0, 0), fullTable(),
	} {
		if !Good(rows) {
			t.Errorf("Good(%v) = false", rows)
		}
	}
	for _, rows := range [][]api.Row{
		rowsOf(0, 0, 0, 0, 0, 0), rowsOf(0, 0, 0, 0, 0, 1), rowsOf(0, 0, 1, 0, 0, 0), rowsOf(63, 7, 0, 63, 7, 1),
		rowsOf(0, 1, 0, 0, 0, 1), rowsOf(1, 0, 0, 0, 1, 0), rowsOf(1, 0, 0, 0, 0, 0), rowsOf(1, 1, 0, 0, 7, 0),
		rowsOf(1, 0, 0, 2, 0, 0, 1, 0, 0), rowsOf(1, 0, 0, 2, 0, 0, 2, 0, 0), rowsOf(1, 0, 0, 2, 0, 0, 1, 1, 0),
		rowsOf(0, 0, -1), rowsOf(0, 8, 0), rowsOf(0, -1, 0), rowsOf(64, 0, 0), rowsOf(-1, 0, 0),
		rowsOf(0, 0, 0, 0, 8, 0, 1, 0, 0), rowsOf(0, 7, 0, 1, -1, 0), rowsOf(0, 0, 0, 1, 0, -1, 2, 0, 0),
	} {
		if Good(rows) {
			t.Errorf("Good(%v) = true", rows)
		}
	}
}

// P13.1: each field at its ends and far off, of the first row, one in the middle and the last.
func TestGoodFields(t *testing.T) {
	for producer := range 64 {
		for part := range 8 {
			if !Good(rowsOf(producer, part, producer)) {
				t.Errorf("the row %d, %d is refused", producer, part)
			}
		}
	}
	spoilt := func(row api.Row) {
		for at := range 3 {
			rows := rowsOf(1, 4, 0, 1, 5, 0, 2, 0, 0)
			rows[at] = row
			if Good(rows) || Good(rows[at:]) || Good(rows[:at+1]) || Good([]api.Row{row}) {
				t.Errorf("%v is taken", rows)
			}
		}
	}
	for _, n := range farNumbers(64) {
		spoilt(api.Row{Producer: n, Part: 5})
	}
	for _, n := range farNumbers(8) {
		spoilt(api.Row{Producer: 1, Part: n})
	}
	for _, n := range []int{-1, -2, -1 << 31, -1 << 32, least + 1, least} {
		spoilt(api.Row{Producer: 1, Part: 5, Last: n})
	}
	for _, n := range []int{0, 1, 1 << 31, 1 << 32, 1 << 62, most - 1, most} {
		if !Good(rowsOf(1, 4, n, 1, 5, n, 2, 0, n)) {
			t.Errorf("rows with the Last %d are refused", n)
		}
	}
}

// P13.1: of the fullest table any row may go; none may stand twice, or be exchanged with another.
func TestGoodFullTable(t *testing.T) {
	full := fullTable()
	r := rand.New(rand.NewSource(1))
	for at := range full {
		if !Good(slices.Delete(slices.Clone(full), at, at+1)) {
			t.Errorf("without row %d it is refused", at)
		}
		if Good(slices.Insert(slices.Clone(full), at, full[at])) {
			t.Errorf("with row %d twice it is taken", at)
		}
		other := (at + 1 + r.Intn(len(full)-1)) % len(full)
		rows := slices.Clone(full)
		rows[at], rows[other] = rows[other], rows[at]
		if Good(rows) {
			t.Errorf("with rows %d and %d exchanged it is taken", at, other)
		}
	}
}

// P13.1: the first row with the numbers counts, wherever it stands, whatever stands around it.
func TestLastByHand(t *testing.T) {
	for _, c := range []struct {
		rows                 []api.Row
		producer, part, want int
	}{
		{nil, 0, 0, -1},
		{[]api.Row{}, 5, 5, -1},
		{rowsOf(0, 0, 0), 0, 0, 0},
		{rowsOf(0, 0, 7), 0, 1, -1},
		{rowsOf(0, 0, 7), 1, 0, -1},
		{rowsOf(1, 2, 7), 2, 1, -1},
		{rowsOf(1, 2, 7, 2, 1, 9), 1, 2, 7},
		{rowsOf(1, 2, 7, 2, 1, 9), 2, 1, 9},
		{rowsOf(1, 2, 7, 2, 1, 9), 1, 1, -1},
		{rowsOf(1, 2, 7, 2, 1, 9), 2, 2, -1},
		{rowsOf(63, 7, most), 63, 7, most},
		// Rows twice.
		{rowsOf(1, 1, 3, 1, 1, 4), 1, 1, 3},
		{rowsOf(1, 1, 4, 1, 1, 3), 1, 1, 4},
		{rowsOf(1, 1, 4, 1, 1, 3, 1, 1, 5), 1, 1, 4},
		{rowsOf(0, 0, 0, 1, 1, 4, 2, 0, 0, 1, 1, 3, 1, 1, 5), 1, 1, 4},
		// Rows that don't rise.
		{rowsOf(9, 0, 1, 5, 0, 2, 1, 0, 3), 9, 0, 1},
		{rowsOf(9, 0, 1, 5, 0, 2, 1, 0, 3), 5, 0, 2},
		{rowsOf(9, 0, 1, 5, 0, 2, 1, 0, 3), 1, 0, 3},
		{rowsOf(9, 0, 1, 5, 0, 2, 1, 0, 3), 3, 0, -1},
		// Rows out of range.
		{rowsOf(64, 8, 6), 64, 8, 6},
		{rowsOf(-1, -1, 6), -1, -1, 6},
		{rowsOf(-1, -1, 6), 0, 0, -1},
		{rowsOf(most, least, 6, least, most, 8), least, most, 8},
		{rowsOf(1<<32, 1<<32, 6), 0, 0, -1},
		{rowsOf(1, 8, 6), 2, 0, -1},
		{rowsOf(2, 0, 6), 1, 8, -1},
		// A Last below 0.
		{rowsOf(0, 0, -5), 0, 0, -5},
		{rowsOf(0, 0, least, 0, 0, 3), 0, 0, least},
		{rowsOf(0, 0, -1, 0, 0, 3), 0, 0, -1},
	} {
		if got := Last(c.rows, c.producer, c.part); got != c.want {
			t.Errorf("Last(%v, %d, %d) = %d, want %d", c.rows, c.producer, c.part, got, c.want)
		}
	}
}

// P13.1: of each table row its own Last, in tables of all lengths.
func TestLastOfTables(t *testing.T) {
	full := fullTable()
	for many := range len(full) + 1 {
		rows := full[len(full)-many:]
		for _, row := range full {
			want := -1
			if at := row.Producer*8 + row.Part - (len(full) - many); at >= 0 {
				want = row.Last
			}
			if got := Last(rows, row.Producer, row.Part); got != want {
				t.Fatalf("the last %d rows: Last(.., %d, %d) = %d, want %d", many, row.Producer, row.Part, got, want)
			}
		}
	}
}

// P13.2: what a number is, by rows written by hand.
func TestLookByHand(t *testing.T) {
	for _, c := range []struct {
		rows      []api.Row
		seq, want int
	}{
		{nil, 0, Fresh}, {nil, 1, Gap}, {nil, 2, Gap}, {nil, most, Gap}, {nil, -1, Again}, {nil, -2, Again}, {nil, least, Again},
		{rowsOf(3, 1, 0), 0, Again}, {rowsOf(3, 1, 0), 1, Fresh}, {rowsOf(3, 1, 0), 2, Gap}, {rowsOf(3, 1, 0), most, Gap},
		{rowsOf(3, 1, 0), -1, Again}, {rowsOf(3, 1, 0), least, Again},
		{rowsOf(3, 1, 9), 0, Again}, {rowsOf(3, 1, 9), 8, Again}, {rowsOf(3, 1, 9), 9, Again}, {rowsOf(3, 1, 9), 10, Fresh}, {rowsOf(3, 1, 9), 11, Gap},
		{rowsOf(3, 1, 1<<32), 1, Again}, {rowsOf(3, 1, 1<<32), 1<<32 + 1, Fresh}, {rowsOf(3, 1, 1<<32), 1 << 33, Gap},
		{rowsOf(3, 1, most-1), most - 2, Again}, {rowsOf(3, 1, most-1), most - 1, Again}, {rowsOf(3, 1, most-1), most, Fresh},
		{rowsOf(3, 1, most), most, Ended}, {rowsOf(3, 1, most), most - 1, Again}, {rowsOf(3, 1, most), 0, Again},
		{rowsOf(3, 1, most), -1, Again}, {rowsOf(3, 1, most), least, Again},
		// Others' rows count nothing.
		{rowsOf(3, 0, 5, 3, 2, 5), 0, Fresh}, {rowsOf(2, 1, 5, 4, 1, 5), 0, Fresh}, {rowsOf(1, 3, 5), 6, Gap},
		{rowsOf(2, 1, most, 4, 1, most), most, Gap},
		// The first row counts.
		{rowsOf(3, 1, 4, 3, 1, 8), 5, Fresh}, {rowsOf(3, 1, 4, 3, 1, 8), 9, Gap}, {rowsOf(3, 1, most, 3, 1, 0), most, Ended},
		{rowsOf(9, 0, 0, 5, 0, 0, 3, 1, 4), 5, Fresh},
		// A Last below 0.
		{rowsOf(3, 1, -1), 0, Fresh}, {rowsOf(3, 1, -1), -1, Again}, {rowsOf(3, 1, -5), -4, Fresh}, {rowsOf(3, 1, -5), -5, Again},
		{rowsOf(3, 1, -5), -6, Again}, {rowsOf(3, 1, -5), 0, Gap}, {rowsOf(3, 1, -5), most, Gap},
		{rowsOf(3, 1, least), least, Again}, {rowsOf(3, 1, least), least + 1, Fresh}, {rowsOf(3, 1, least), least + 2, Gap}, {rowsOf(3, 1, least), most, Gap},
	} {
		if got := Look(c.rows, 3, 1, c.seq); got != c.want {
			t.Errorf("Look(%v, 3, 1, %d) = %d, want %d", c.rows, c.seq, got, c.want)
		}
	}
}

// P13.2: a producer or part out of range is looked for as any other.
func TestLookOutOfRange(t *testing.T) {
	look := func(producer, part int) {
		t.Helper()
		rows := rowsOf(3, 1, 9, producer, part, 4)
		for seq, want := range map[int]int{-1: Again, 4: Again, 5: Fresh, 6: Gap} {
			if got := Look(rows, producer, part, seq); got != want {
				t.Errorf("Look(%v, %d, %d, %d) = %d, want %d", rows, producer, part, seq, got, want)
			}
		}
		for seq, want := range map[int]int{-1: Again, 0: Fresh, 1: Gap} {
			if got := Look(rows[:1], producer, part, seq); got != want {
				t.Errorf("Look(%v, %d, %d, %d) = %d, want %d", rows[:1], producer, part, seq, got, want)
			}
		}
	}
	for _, n := range farNumbers(64) {
		look(n, 1)
	}
	for _, n := range farNumbers(8) {
		look(3, n)
	}
}

// P13.3: rows written by hand.
func TestTakeByHand(t *testing.T) {
	rows := rowsOf(1, 2, 5, 3, 1, 0, 3, 4, 9)
	for _, c := range []struct {
		producer, part, seq int
		want                []api.Row
		what                int
	}{
		{0, 0, 0, rowsOf(0, 0, 0, 1, 2, 5, 3, 1, 0, 3, 4, 9), Fresh},
		{1, 1, 0, rowsOf(1, 1, 0, 1, 2, 5, 3, 1, 0, 3, 4, 9), Fresh},
		{1, 3, 0, rowsOf(1, 2, 5, 1, 3, 0, 3, 1, 0, 3, 4, 9), Fresh},
		{2, 7, 0, rowsOf(1, 2, 5, 2, 7, 0, 3, 1, 0, 3, 4, 9), Fresh},
		{3, 0, 0, rowsOf(1, 2, 5, 3, 0, 0, 3, 1, 0, 3, 4, 9), Fresh},
		{3, 2, 0, rowsOf(1, 2, 5, 3, 1, 0, 3, 2, 0, 3, 4, 9), Fresh},
		{3, 5, 0, rowsOf(1, 2, 5, 3, 1, 0, 3, 4, 9, 3, 5, 0), Fresh},
		{63, 7, 0, rowsOf(1, 2, 5, 3, 1, 0, 3, 4, 9, 63, 7, 0), Fresh},
		{1, 2, 6, rowsOf(1, 2, 6, 3, 1, 0, 3, 4, 9), Fresh},
		{3, 1, 1, rowsOf(1, 2, 5, 3, 1, 1, 3, 4, 9), Fresh},
		{3, 4, 10, rowsOf(1, 2, 5, 3, 1, 0, 3, 4, 10), Fresh},
		{1, 2, 5, rows, Again}, {1, 2, 0, rows, Again}, {1, 2, -1, rows, Again}, {1, 2, 7, rows, Gap},
		{3, 1, 0, rows, Again}, {3, 1, 2, rows, Gap}, {3, 4, least, rows, Again}, {3, 4, most, rows, Gap},
		{2, 7, 1, rows, Gap}, {2, 7, -1, rows, Again}, {0, 0, most, rows, Gap}, {0, 0, least, rows, Again},
		{-1, 2, 6, rows, 0}, {64, 0, 0, rows, 0}, {1, -1, 0, rows, 0}, {1, 8, 0, rows, 0}, {64, 8, -1, rows, 0},
	} {
		wantTake(t, rows, c.producer, c.part, c.seq, c.want, c.what)
	}
	wantTake(t, rowsOf(0, 0, most-1), 0, 0, most, rowsOf(0, 0, most), Fresh)
	wantTake(t, rowsOf(0, 0, most), 0, 0, most, rowsOf(0, 0, most), Ended)
	wantTake(t, rowsOf(0, 0, most), 0, 0, least, rowsOf(0, 0, most), Again)
}

// P13.3: out of range nothing is taken, though there are such rows.
func TestTakeOutOfRange(t *testing.T) {
	take := func(producer, part int) {
		t.Helper()
		for _, rows := range [][]api.Row{nil, rowsOf(3, 1, 9), rowsOf(producer, part, 4), rowsOf(3, 1, 9, producer, part, most)} {
			for _, seq := range []int{-1, 0, 1, 4, 5, 6, most, least} {
				wantTake(t, rows, producer, part, seq, rows, 0)
			}
		}
	}
	for _, n := range farNumbers(64) {
		take(n, 1)
		take(n, 8)
	}
	for _, n := range farNumbers(8) {
		take(3, n)
	}
	wantTake(t, nil, 63, 7, 0, rowsOf(63, 7, 0), Fresh)
	wantTake(t, nil, 0, 0, 0, rowsOf(0, 0, 0), Fresh)
}

// P13.3: of rows that are no table the first such row is written, the others stay.
func TestTakeFirstRow(t *testing.T) {
	for _, c := range []struct {
		rows []api.Row
		seq  int
		want []api.Row
		what int
	}{
		{rowsOf(3, 1, 4, 3, 1, 8), 5, rowsOf(3, 1, 5, 3, 1, 8), Fresh},
		{rowsOf(3, 1, 4, 3, 1, 8), 9, rowsOf(3, 1, 4, 3, 1, 8), Gap},
		{rowsOf(3, 1, 8, 3, 1, 4), 5, rowsOf(3, 1, 8, 3, 1, 4), Again},
		{rowsOf(3, 1, 8, 3, 1, 8, 3, 1, 8), 9, rowsOf(3, 1, 9, 3, 1, 8, 3, 1, 8), Fresh},
		{rowsOf(9, 0, 1, 5, 0, 2, 3, 1, 4), 5, rowsOf(9, 0, 1, 5, 0, 2, 3, 1, 5), Fresh},
		{rowsOf(3, 1, 4, 1, 0, 1, 0, 0, 2), 5, rowsOf(3, 1, 5, 1, 0, 1, 0, 0, 2), Fresh},
		{rowsOf(64, 9, -9, 3, 1, 0, -1, -1, 7), 1, rowsOf(64, 9, -9, 3, 1, 1, -1, -1, 7), Fresh},
		{rowsOf(3, 1, -5), -4, rowsOf(3, 1, -4), Fresh},
		{rowsOf(3, 1, -5), 0, rowsOf(3, 1, -5), Gap},
		{rowsOf(3, 1, least), least + 1, rowsOf(3, 1, least+1), Fresh},
		{rowsOf(3, 1, most, 3, 1, 0), most, rowsOf(3, 1, most, 3, 1, 0), Ended},
	} {
		wantTake(t, c.rows, 3, 1, c.seq, c.want, c.what)
	}
	for _, rows := range [][]api.Row{
		rowsOf(9, 0, 1, 5, 0, 2), rowsOf(0, 0, 1, 0, 0, 1), rowsOf(64, 9, -9), rowsOf(most, most, most, least, least, least), rowsOf(0, 0, -1),
	} {
		for seq := -1; seq <= 1; seq++ {
			wantOneMore(t, rows, 3, 1, seq)
		}
	}
}

// P13.3, P13.4: a row is put at each place among the others of the fullest table.
func TestTakeAtEachPlace(t *testing.T) {
	full := fullTable()
	for at, row := range full {
		without := slices.Delete(slices.Clone(full), at, at+1)
		with := slices.Clone(full)
		with[at].Last = 0
		wantTake(t, without, row.Producer, row.Part, 0, with, Fresh)
		with[at].Last = row.Last + 1
		wantTake(t, full, row.Producer, row.Part, row.Last+1, with, Fresh)
		alone := []api.Row{{Producer: row.Producer, Part: row.Part}}
		wantTake(t, nil, row.Producer, row.Part, 0, alone, Fresh)
	}
}

// P13.4: a table that is filled in any order is the fullest one, and a table at each step.
func TestTablesStayTables(t *testing.T) {
	r := rand.New(rand.NewSource(2))
	for range 10 {
		var rows []api.Row
		for _, at := range r.Perm(512) {
			var what int
			if rows, what = Take(rows, at/8, at%8, 0); what != Fresh || !goodByRule(rows) || !Good(rows) {
				t.Fatalf("the row %d, %d: %v, %d", at/8, at%8, rows, what)
			}
		}
		if len(rows) != 512 {
			t.Fatalf("%d rows", len(rows))
		}
	}
}

// P13.1, P13.2, P13.3: all lists of up to three rows of few numbers against the chapter's rules.
func TestSmallListsByRule(t *testing.T) {
	var few []api.Row
	for _, producer := range []int{0, 1, 64} {
		for _, part := range []int{0, 1, 8} {
			few = append(few, api.Row{Producer: producer, Part: part, Last: len(few) % 3})
		}
	}
	few = append(few, rowsOf(0, 1, -2, 1, 0, most)...)
	var lists [][]api.Row
	for _, a := range few {
		lists = append(lists, []api.Row{a})
		for _, b := range few {
			lists = append(lists, []api.Row{a, b})
			for _, c := range few {
				lists = append(lists, []api.Row{a, b, c})
			}
		}
	}
	for _, rows := range lists {
		for _, asked := range rowsOf(0, 0, 0, 0, 1, 0, 1, 0, 0, 1, 1, 0, 0, 8, 0, 64, 0, 0, 2, 2, 0) {
			for _, seq := range []int{least, -1, 0, 1, 2, 3, most} {
				wantByRule(t, rows, asked.Producer, asked.Part, seq)
			}
		}
	}
}

// P13.1, P13.2, P13.3: tables and other rows by chance against the chapter's rules, asked close to what they have.
func TestByRule(t *testing.T) {
	r := rand.New(rand.NewSource(3))
	for i := range 4000 {
		rows := anyTable(r, 1+r.Intn(60))
		if i%2 == 0 {
			rows = anyRows(r, r.Intn(12))
		}
		if i%4 == 1 && len(rows) > 0 {
			from, to := r.Intn(len(rows)), r.Intn(len(rows))
			rows[from], rows[to] = rows[to], rows[from]
		}
		for range 5 {
			asked := api.Row{Producer: r.Intn(66) - 1, Part: r.Intn(10) - 1, Last: -1}
			if len(rows) > 0 && r.Intn(2) == 0 {
				asked = rows[r.Intn(len(rows))]
			}
			// At the ends the sum goes round, and asks for a number that is far off.
			wantByRule(t, rows, asked.Producer, asked.Part, asked.Last+r.Intn(5)-2)
		}
	}
}

// P13.2: what a number is hangs on the Last alone, at all edges.
func TestLookByRule(t *testing.T) {
	numbers := []int{least, least + 1, least + 2, -1 << 62, -1 << 32, -1 << 31, -3, -2, -1, 0, 1, 2, 3, 1 << 31, 1<<31 + 1, 1 << 32, 1<<32 + 1, 1<<53 + 1, 1 << 53, 1 << 62, most - 2, most - 1, most}
	for _, last := range numbers {
		rows := rowsOf(0, 0, 1, 3, 1, last, 5, 5, most)
		for _, seq := range append(numbers, last-1, last, last+1, last+2) {
			want := lookByRule(last, seq)
			if got := Look(rows, 3, 1, seq); got != want {
				t.Errorf("Look(%v, 3, 1, %d) = %d, want %d", rows, seq, got, want)
			}
			if _, got := Take(rows, 3, 1, seq); got != want {
				t.Errorf("Take(%v, 3, 1, %d) = %d, want %d", rows, seq, got, want)
			}
		}
	}
}

// P13.4: of all rows of six numbers those that are Fresh are 0, 1, 2 .., each once.
func TestEachNumberOnce(t *testing.T) {
	numbers := []int{-1, 0, 1, 2, 3}
	var hand func(rows []api.Row, next, left int)
	hand = func(rows []api.Row, next, left int) {
		if left == 0 {
			return
		}
		for _, seq := range numbers {
			behind, what := Take(rows, 7, 7, seq)
			if (what == Fresh) != (seq == next) || !Good(behind) {
				t.Fatalf("%d of %d is %d: %v", seq, next, what, behind)
			}
			if what == Fresh {
				hand(behind, next+1, left-1)
			} else {
				hand(behind, next, left-1)
			}
		}
	}
	hand(nil, 0, 6)
}

// P13.4: of many producers, whose numbers come late, twice and mixed up, each has its own.
func TestManyProducers(t *testing.T) {
	r := rand.New(rand.NewSource(4))
	for range 20 {
		var rows []api.Row
		next := map[[2]int]int{}
		for range 3000 {
			who := [2]int{r.Intn(4) * 21, r.Intn(3) * 3}
			seq := next[who] + r.Intn(5) - 2
			behind, what := Take(rows, who[0], who[1], seq)
			if (what == Fresh) != (seq == next[who]) || what == Ended {
				t.Fatalf("%d of %v, of which %d comes next, is %d", seq, who, next[who], what)
			}
			if what == Fresh {
				next[who]++
			} else if !slices.Equal(behind, rows) {
				t.Fatalf("the rows have changed by %d: %v, %v", what, rows, behind)
			}
			rows = behind
			if !Good(rows) || len(rows) != count(next) || Last(rows, who[0], who[1]) != next[who]-1 {
				t.Fatalf("behind %d of %v: %v", seq, who, rows)
			}
		}
	}
}

// count tells of how many something was taken.
func count(next map[[2]int]int) int {
	many := 0
	for _, n := range next {
		if n > 0 {
			many++
		}
	}
	return many
}

// P13.4: at the end of all numbers nothing is taken any more.
func TestNothingBehindTheEnd(t *testing.T) {
	rows := rowsOf(0, 0, 0, 1, 1, most-2, 2, 2, 0)
	rows = wantTake(t, rows, 1, 1, most-1, rowsOf(0, 0, 0, 1, 1, most-1, 2, 2, 0), Fresh)
	rows = wantTake(t, rows, 1, 1, most, rowsOf(0, 0, 0, 1, 1, most, 2, 2, 0), Fresh)
	for _, seq := range []int{most, least, -1, 0, 1, most - 1, most} {
		what := Again
		if seq == most {
			what = Ended
		}
		rows = wantTake(t, rows, 1, 1, seq, rowsOf(0, 0, 0, 1, 1, most, 2, 2, 0), what)
	}
	if !Good(rows) {
		t.Errorf("%v is no table", rows)
	}
}

// asked are calls that have each of the answers, of a table and of other rows.
func asked() [][3]int {
	return [][3]int{
		{2, 2, 5}, {2, 2, 6}, {2, 2, 7}, {0, 0, 0}, {1, 7, 0}, {2, 3, 0}, {63, 7, 0}, {0, 0, 1}, {0, 0, -1},
		{4, 0, most}, {4, 0, 0}, {64, 0, 0}, {-1, 0, 0}, {0, 8, 0}, {0, -1, 0},
	}
}

func listsAsked() [][]api.Row {
	return [][]api.Row{
		{}, rowsOf(2, 2, 5), rowsOf(1, 1, 1, 2, 2, 5, 4, 0, most), rowsOf(4, 0, most, 2, 2, 5, 2, 2, 5, 1, 1, 1), rowsOf(64, 0, 3, 2, 2, 5, -1, 0, 3),
	}
}

func spoil(rows []api.Row) {
	for at := range rows {
		rows[at] = api.Row{Producer: -77, Part: -77, Last: -77}
	}
}

// P13.5: the rows stay, and the room behind their end, which doesn't count.
func TestRowsStay(t *testing.T) {
	for _, rows := range listsAsked() {
		room := append(slices.Clone(rows), rowsOf(0, 0, 0, 2, 2, 6, 63, 7, 0, 4, 0, 1)...)
		before := slices.Clone(room)
		for _, a := range asked() {
			wantByRule(t, room[:len(rows)], a[0], a[1], a[2])
			if !slices.Equal(room, before) {
				t.Fatalf("asked %v of %v: %v", a, before[:len(rows)], room)
			}
		}
	}
}

// P13.5: what is done to an answer doesn't show in the rows or in another answer, nor the other way round.
func TestAnswersAreNew(t *testing.T) {
	for _, rows := range listsAsked() {
		for _, a := range asked() {
			room := append(slices.Clone(rows), rowsOf(8, 0, 0, 9, 0, 0)...)
			given := room[:len(rows)]
			first, what := Take(given, a[0], a[1], a[2])
			second, _ := Take(given, a[0], a[1], a[2])
			want := slices.Clone(first)
			spoil(first[:cap(first)])
			if !slices.Equal(given, rows) || !slices.Equal(room[len(rows):], rowsOf(8, 0, 0, 9, 0, 0)) {
				t.Errorf("Take(%v, %v), %d, shares memory with the rows", rows, a, what)
			}
			if !slices.Equal(second, want) {
				t.Errorf("two answers of Take(%v, %v), %d, share memory", rows, a, what)
			}
			spoil(room)
			if !slices.Equal(second, want) {
				t.Errorf("Take(%v, %v), %d, has changed with the rows", rows, a, what)
			}
		}
	}
}

// P13.5: what was asked before doesn't count.
func TestNothingIsKept(t *testing.T) {
	for range 3 {
		for _, rows := range listsAsked() {
			for _, a := range asked() {
				wantByRule(t, rows, a[0], a[1], a[2])
				for _, other := range listsAsked() {
					spoil(other)
					Take(other, a[0], a[1], a[2])
				}
				wantByRule(t, rows, a[0], a[1], a[2])
				wantByRule(t, nil, a[0], a[1], a[2])
			}
		}
	}
}

// P13.1, P13.2, P13.3: a long list of rows is gone through as a short one.
func TestManyRows(t *testing.T) {
	rows := make([]api.Row, 1<<18)
	for at := range rows {
		rows[at] = api.Row{Producer: 5, Part: 5, Last: 9}
	}
	rows[len(rows)-1] = api.Row{Producer: 1, Part: 1, Last: 3}
	want := func(producer, part, last int) {
		t.Helper()
		taken, what := Take(rows, producer, part, last+1)
		if Good(rows) || Last(rows, producer, part) != last || what != Fresh || Last(taken, producer, part) != last+1 {
			t.Errorf("%d, %d: Last %d, %d, then %d", producer, part, Last(rows, producer, part), what, Last(taken, producer, part))
		}
	}
	want(5, 5, 9)
	want(1, 1, 3)
	want(2, 2, -1)
}

// P1: every call ends and none panics, at all numbers.
func TestAllNumbers(t *testing.T) {
	numbers := []int{least, least + 1, -1 << 32, -1, 0, 1, 7, 8, 63, 64, 1 << 32, most - 1, most}
	for _, producer := range numbers {
		for _, part := range numbers {
			for _, seq := range numbers {
				for _, rows := range append(listsAsked(), nil, rowsOf(producer, part, seq), rowsOf(seq, seq, seq, producer, part, producer, part, producer, seq)) {
					wantByRule(t, rows, producer, part, seq)
				}
			}
		}
	}
}
