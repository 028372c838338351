package quota

import (
	"fmt"
	"math"
	"math/big"
	"slices"
	"strconv"
	"strings"
	"testing"

	"millrace/api"
)

// The signatures; and the numbers have no type of their own.
var (
	_ func(api.Ledger, int) int                            = Of
	_ func(api.Ledger, []api.Record, api.Record) api.Errno = Check
	_                                                      = [...]uint16{Most, Way}
	_                                                      = [...]float64{Most, Way}
)

const (
	most  = math.MaxInt
	least = math.MinInt
)

// recordsOf makes records of texts like "3.0.2": producer, number, partition.
func recordsOf(text string) []api.Record {
	var records []api.Record
	for _, word := range strings.Fields(text) {
		var n [3]int
		for i, digits := range strings.Split(word, ".") {
			n[i], _ = strconv.Atoi(digits)
		}
		records = append(records, api.Record{Producer: n[0], Seq: n[1], Part: n[2]})
	}
	return records
}

// many makes a producer's records with so many numbers from one on.
func many(producer, part, from, count int) []api.Record {
	var records []api.Record
	for i := range count {
		records = append(records, api.Record{Producer: producer, Seq: from + i, Part: part})
	}
	return records
}

// others makes so many records of many producers, none of them producer 3's.
func others(count int) []api.Record {
	var records []api.Record
	for i := range count {
		producer := []int{0, 1, 2, 4, 5, 6, 62, 63}[i%8]
		records = append(records, api.Record{Producer: producer, Seq: i / 8, Part: i % 5})
	}
	return records
}

// taken is a ledger in which the producer's last number in the partition is that.
func taken(producer, part, last int) api.Ledger {
	return api.Ledger{Rows: []api.Row{{Producer: producer, Part: part, Last: last}}}
}

func inForm(r api.Record) bool {
	return r.Producer >= 0 && r.Producer < 64 && r.Part >= 0 && r.Part < 8 && r.Seq >= 0 && len(r.Key) <= 32
}

func lastByRule(l api.Ledger, producer, part int) int {
	for _, row := range l.Rows {
		if row.Producer == producer && row.Part == part {
			return row.Last
		}
	}
	return -1
}

func ofByRule(records []api.Record, producer int) int {
	n := 0
	for _, r := range records {
		if r.Producer == producer {
			n++
		}
	}
	return n
}

// isLeastFree: are all numbers between last and seq among n. It reckons with numbers that have no end.
func isLeastFree(n map[int]bool, last, seq int) bool {
	between := int64(0)
	for number := range n {
		if last < number && number < seq {
			between++
		}
	}
	want := new(big.Int).Sub(big.NewInt(int64(seq)), big.NewInt(int64(last)))
	return want.Cmp(big.NewInt(between+1)) == 0
}

func checkByRule(l api.Ledger, way []api.Record, r api.Record) api.Errno {
	if !inForm(r) {
		return 3
	}
	last := lastByRule(l, r.Producer, r.Part)
	if r.Seq < last || r.Seq == last && last != 9223372036854775807 {
		return 0
	}
	if r.Seq == last || l.Counts[r.Part] == 9223372036854775807 {
		return 14
	}
	n := map[int]bool{}
	for _, w := range way {
		if w.Producer == r.Producer && w.Part == r.Part {
			n[w.Seq] = true
		}
	}
	switch {
	case n[r.Seq]:
		return 0
	case !isLeastFree(n, last, r.Seq):
		return 11
	case ofByRule(l.Open, r.Producer)+ofByRule(way, r.Producer) >= 32, len(way) >= 256, len(l.Open)+len(way) >= 512:
		return 10
	}
	return 0
}

func short(records []api.Record) string {
	if len(records) > 40 {
		return fmt.Sprintf("%v and more, %d in all", records[:40], len(records))
	}
	return fmt.Sprint(records)
}

func wantCheck(t *testing.T, l api.Ledger, way []api.Record, r api.Record, want api.Errno) {
	t.Helper()
	if got := Check(l, way, r); got != want {
		t.Errorf("Check(rows %v counts %v open %s, %s, %v) = %d, want %d", l.Rows, l.Counts, short(l.Open), short(way), r, got, want)
	}
}

func wantOf(t *testing.T, l api.Ledger, producer, want int) {
	t.Helper()
	if got := Of(l, producer); got != want {
		t.Errorf("Of(%s, %d) = %d, want %d", short(l.Open), producer, got, want)
	}
}

// P15.2: the limits.
func TestLimits(t *testing.T) {
	if Most != 32 || Way != 256 {
		t.Errorf("%d, %d", Most, Way)
	}
}

// P15.2: the chapter's example.
func TestExample(t *testing.T) {
	wantCheck(t, api.Ledger{}, nil, api.Record{}, 0)
	way := []api.Record{{}}
	for seq, want := range []api.Errno{0, 0, 11} {
		wantCheck(t, api.Ledger{}, way, api.Record{Seq: seq}, want)
	}
}

// P15.1: rows written by hand.
func TestOfByHand(t *testing.T) {
	open := recordsOf("3.0.0 5.0.0 3.1.0 3.0.7 63.0.0 5.1.0 0.0.1")
	for producer, want := range map[int]int{3: 3, 5: 2, 63: 1, 0: 1, 1: 0, 4: 0, 62: 0, 64: 0, -1: 0, -3: 0, most: 0, least: 0} {
		wantOf(t, api.Ledger{Open: open}, producer, want)
		wantOf(t, api.Ledger{}, producer, 0)
		wantOf(t, api.Ledger{Open: []api.Record{}}, producer, 0)
	}
}

// P15.1: each record counts, whatever its number, its partition, its key and its value, and however often it stands there.
func TestOfCountsAll(t *testing.T) {
	for n := range 600 {
		var open []api.Record
		for i := range n {
			open = append(open, api.Record{Producer: 3, Seq: i % 7, Part: i % 11, Key: strings.Repeat("k", i%3), Val: uint32(i % 2)})
		}
		wantOf(t, api.Ledger{Open: open}, 3, n)
		wantOf(t, api.Ledger{Open: open}, 2, 0)
		open = append(open, others(n)...)
		wantOf(t, api.Ledger{Open: open}, 3, n)
		slices.Reverse(open)
		wantOf(t, api.Ledger{Open: open}, 3, n)
	}
}

// P15.1: nothing but Open counts.
func TestOfOpenAlone(t *testing.T) {
	l := api.Ledger{
		Rows:    []api.Row{{Producer: 3, Part: 1, Last: 8}, {Producer: 4, Part: 1, Last: 8}},
		Counts:  [8]int{1: 18},
		Batches: []api.Batch{{Epoch: 0, Records: many(3, 1, 0, 9)}, {Epoch: 1, Records: many(4, 1, 0, 9)}},
		Sealed:  2,
		Keep:    3,
	}
	wantOf(t, l, 3, 0)
	l.Open = recordsOf("4.9.1")
	wantOf(t, l, 3, 0)
	wantOf(t, l, 4, 1)
}

// P15.1: a number that is no producer's counts as any other.
func TestOfFarProducers(t *testing.T) {
	numbers := []int{0, 1, 63, 64, 255, 256, 1 << 31, 1 << 32, 1<<32 + 1, most, -1, -2, -1 << 32, 1 - 1<<32, least}
	for _, producer := range numbers {
		l := api.Ledger{Open: []api.Record{{Producer: producer}, {Producer: 7}, {Producer: producer, Part: least}}}
		for _, other := range numbers {
			want := 0
			if other == producer {
				want = 2
			}
			wantOf(t, l, other, want)
		}
	}
}

// wrongRecords have one field each that isn't in form.
func wrongRecords() []api.Record {
	right := api.Record{Producer: 3, Seq: 5, Part: 1, Key: "k", Val: 7}
	var all []api.Record
	add := func(change func(*api.Record)) {
		r := right
		change(&r)
		all = append(all, r)
	}
	for _, n := range []int{-1, -2, 64, 65, 256 + 3, 1 << 32, 1<<32 + 3, most, least, least + 3} {
		add(func(r *api.Record) { r.Producer = n })
	}
	for _, n := range []int{-1, -2, -1 << 32, least, least + 1} {
		add(func(r *api.Record) { r.Seq = n })
	}
	for _, n := range []int{-1, -2, 8, 9, 256 + 1, 1 << 32, 1<<32 + 1, most, least, least + 1} {
		add(func(r *api.Record) { r.Part = n })
	}
	for _, n := range []int{33, 34, 64, 256, 65536} {
		add(func(r *api.Record) { r.Key = strings.Repeat("k", n) })
	}
	return all
}

// P15.2: a record that isn't in form, whatever the ledger and the way are.
func TestForm(t *testing.T) {
	for _, r := range wrongRecords() {
		none := api.Ledger{}
		full := api.Ledger{Open: others(512)}
		for i := range full.Counts {
			full.Counts[i] = most
		}
		for _, l := range []api.Ledger{none, full, taken(r.Producer, r.Part, r.Seq), taken(r.Producer, r.Part, most), taken(r.Producer, r.Part, r.Seq-1), taken(3, 1, 4), taken(3, 1, most)} {
			for _, way := range [][]api.Record{nil, {r}, many(3, 1, 0, 40), others(256)} {
				wantCheck(t, l, way, r, 3)
			}
		}
	}
}

// P15.2: records at the ends of their form.
func TestFormEnds(t *testing.T) {
	for producer := range 64 {
		for part := range 8 {
			wantCheck(t, api.Ledger{}, nil, api.Record{Producer: producer, Part: part}, 0)
			wantCheck(t, api.Ledger{}, nil, api.Record{Producer: producer, Part: part, Seq: 1}, 11)
			wantCheck(t, taken(producer, part, 8), nil, api.Record{Producer: producer, Part: part, Seq: 9}, 0)
		}
	}
	for n := range 33 {
		wantCheck(t, api.Ledger{}, nil, api.Record{Key: strings.Repeat("\xff", n), Val: math.MaxUint32}, 0)
	}
}

// fullLedgers are those in which nothing new can be handed in: too many of producer 3, too many in all, a partition at its end.
func fullLedgers(last int) []api.Ledger {
	var all []api.Ledger
	for _, open := range [][]api.Record{many(3, 2, 0, 32), many(3, 1, 0, 40), others(512), nil} {
		l := taken(3, 1, last)
		l.Open = open
		l.Counts[1] = most
		all = append(all, l)
		if open != nil {
			l.Counts[1] = 0
			all = append(all, l)
		}
	}
	return all
}

// P15.2: a number that was taken is OK, ahead of all that is said behind it.
func TestAgain(t *testing.T) {
	for _, last := range []int{0, 1, 2, 9, 31, 32, 33, 1 << 32, most - 1} {
		for _, l := range append(fullLedgers(last), taken(3, 1, last)) {
			for _, way := range [][]api.Record{nil, recordsOf("3.0.1"), many(3, 1, 0, 40), others(256), many(3, 1, last+1, 3)} {
				for _, seq := range []int{0, last / 2, max(last-1, 0), last} {
					wantCheck(t, l, way, api.Record{Producer: 3, Seq: seq, Part: 1}, 0)
				}
			}
		}
	}
	// Another key and another value don't tell it apart.
	wantCheck(t, taken(3, 1, 4), nil, api.Record{Producer: 3, Seq: 4, Part: 1, Key: "other", Val: 9}, 0)
	// Where the last number of all was taken only that one is at the end.
	for _, seq := range []int{0, 1, 1 << 32, most - 1} {
		wantCheck(t, taken(3, 1, most), nil, api.Record{Producer: 3, Seq: seq, Part: 1}, 0)
	}
}

// P15.2: the last number of all was taken, ahead of all that is said behind it.
func TestEnded(t *testing.T) {
	r := api.Record{Producer: 3, Seq: most, Part: 1}
	for _, l := range append(fullLedgers(most), taken(3, 1, most)) {
		for _, way := range [][]api.Record{nil, {r}, many(3, 1, 0, 40), others(256)} {
			wantCheck(t, l, way, r, 14)
		}
	}
	for _, l := range []api.Ledger{taken(3, 2, most), taken(2, 1, most), taken(1, 3, most), {}} {
		wantCheck(t, l, nil, r, 11)
		wantCheck(t, l, []api.Record{r}, r, 0)
	}
	wantCheck(t, taken(3, 1, most-1), nil, r, 0)
	wantCheck(t, taken(3, 1, most-1), []api.Record{r}, r, 0)
	wantCheck(t, taken(3, 1, most-2), nil, r, 11)
	wantCheck(t, taken(3, 1, most-2), many(3, 1, most-1, 1), r, 0)
	wantCheck(t, taken(3, 1, most-2), []api.Record{r}, api.Record{Producer: 3, Seq: most - 1, Part: 1}, 0)
	wantCheck(t, taken(3, 1, most-2), many(3, 1, most-1, 2), r, 0)
}

// P15.2: the partition's Count is at its end, ahead of all that is said behind it; the others' count nothing.
func TestFullPartition(t *testing.T) {
	for part := range 8 {
		for count, want := range map[int]api.Errno{most: 14, most - 1: 0, 1 << 62: 0, 1<<32 - 1: 0, 0: 0, -1: 0, least: 0} {
			for seq, open := range map[int]api.Errno{0: 0, 1: 0, 2: 0, 3: 11, most: 11} {
				r := api.Record{Producer: 3, Seq: seq, Part: part}
				l := api.Ledger{}
				l.Counts[part] = count
				asked := open
				if want != 0 {
					asked = want
				}
				wantCheck(t, l, many(3, part, 0, 2), r, asked)
				for i := range l.Counts {
					l.Counts[i] = most
				}
				l.Counts[part] = count
				wantCheck(t, l, many(3, part, 0, 2), r, asked)
			}
		}
		full := api.Ledger{Open: many(3, part, 0, 512)}
		full.Counts[part] = most
		for seq := range 3 {
			wantCheck(t, full, many(3, part, 1, 1), api.Record{Producer: 3, Seq: seq, Part: part}, 14)
		}
	}
}

// P15.2: a number that is on the way is OK, ahead of a gap and of all limits.
func TestOnTheWay(t *testing.T) {
	for _, way := range [][]api.Record{many(3, 1, 5, 40), append(others(300), many(3, 1, 5, 40)...), append(many(3, 1, 5, 40), others(300)...)} {
		for _, l := range []api.Ledger{{}, taken(3, 1, 4), {Open: many(3, 0, 0, 32)}, {Open: others(512)}} {
			for seq := 5; seq < 45; seq++ {
				wantCheck(t, l, way, api.Record{Producer: 3, Seq: seq, Part: 1}, 0)
				wantCheck(t, l, way, api.Record{Producer: 3, Seq: seq, Part: 1, Key: "other", Val: 9}, 0)
			}
		}
	}
	wantCheck(t, api.Ledger{}, many(3, 1, most, 1), api.Record{Producer: 3, Seq: most, Part: 1}, 0)
	// Another's number, or one in another partition, isn't it.
	for _, way := range []string{"2.5.1", "3.5.2", "1.5.3", "3.1.5", "5.3.1", "3.6.1", "3.4.1", "4.5.1 3.5.0"} {
		wantCheck(t, api.Ledger{}, recordsOf(way), api.Record{Producer: 3, Seq: 5, Part: 1}, 11)
	}
}

// P15.2: which number is the first free one, by rows written by hand.
func TestGap(t *testing.T) {
	for _, c := range []struct {
		rows []api.Row
		way  string
		want int // the one number above the last one that isn't on the way and is OK
	}{
		{nil, "", 0},
		{nil, "3.0.1", 1},
		{nil, "3.1.1", 0},
		{nil, "3.0.1 3.1.1 3.2.1", 3},
		{nil, "3.2.1 3.1.1 3.0.1", 3},
		{nil, "3.2.1 3.0.1 3.1.1", 3},
		{nil, "3.0.1 3.2.1", 1},
		{nil, "3.2.1 3.0.1", 1},
		{nil, "3.1.1 3.2.1 3.3.1", 0},
		{nil, "3.0.1 3.0.1 3.0.1", 1},
		{nil, "3.0.1 3.1.1 3.0.1 3.1.1 3.3.1 3.3.1", 2},
		// Others count nothing.
		{nil, "3.0.0 3.0.2 2.0.1 4.0.1 1.0.3", 0},
		{nil, "3.0.1 3.1.0 3.1.2 2.1.1 4.1.1 1.1.3", 1},
		{[]api.Row{{Producer: 3, Part: 0, Last: 7}, {Producer: 3, Part: 2, Last: 7}}, "", 0},
		{[]api.Row{{Producer: 2, Part: 1, Last: 7}, {Producer: 4, Part: 1, Last: 7}, {Producer: 1, Part: 3, Last: 7}}, "", 0},
		// What was taken counts from the last number on.
		{[]api.Row{{Producer: 3, Part: 1, Last: 0}}, "", 1},
		{[]api.Row{{Producer: 3, Part: 1, Last: 4}}, "", 5},
		{[]api.Row{{Producer: 3, Part: 1, Last: 4}}, "3.5.1 3.6.1", 7},
		{[]api.Row{{Producer: 3, Part: 1, Last: 4}}, "3.6.1", 5},
		{[]api.Row{{Producer: 3, Part: 1, Last: 4}}, "3.7.1 3.5.1", 6},
		{[]api.Row{{Producer: 3, Part: 1, Last: 1 << 32}}, "3.4294967297.1", 1<<32 + 2},
		// What is on the way still, and was taken.
		{[]api.Row{{Producer: 3, Part: 1, Last: 4}}, "3.3.1 3.4.1", 5},
		{[]api.Row{{Producer: 3, Part: 1, Last: 4}}, "3.0.1 3.1.1 3.5.1", 6},
		{[]api.Row{{Producer: 3, Part: 1, Last: 4}}, "3.5.1 3.4.1 3.6.1", 7},
		{[]api.Row{{Producer: 3, Part: 1, Last: 4}}, "3.6.1 3.4.1 3.0.1", 5},
		// Numbers that are none.
		{nil, "3.-1.1 3.-2.1", 0},
		{nil, "3.-1.1 3.0.1", 1},
		// The first row counts.
		{[]api.Row{{Producer: 3, Part: 1, Last: 2}, {Producer: 3, Part: 1, Last: 5}}, "", 3},
		{[]api.Row{{Producer: 9}, {Producer: 3, Part: 1, Last: 2}}, "3.3.1", 4},
		// A last number below 0.
		{[]api.Row{{Producer: 3, Part: 1, Last: -1}}, "", 0},
		{[]api.Row{{Producer: 3, Part: 1, Last: -1}}, "3.0.1", 1},
		{[]api.Row{{Producer: 3, Part: 1, Last: -2}}, "3.-1.1", 0},
		{[]api.Row{{Producer: 3, Part: 1, Last: -4}}, "3.-1.1 3.-3.1 3.-2.1 3.0.1", 1},
		{[]api.Row{{Producer: 3, Part: 1, Last: -2}}, "", -1},
		{[]api.Row{{Producer: 3, Part: 1, Last: -2}}, "3.0.1", -1},
		{[]api.Row{{Producer: 3, Part: 1, Last: -3}}, "3.-2.1 3.0.1", -1},
		{[]api.Row{{Producer: 3, Part: 1, Last: least}}, "", -1},
	} {
		way := recordsOf(c.way)
		l := api.Ledger{Rows: c.rows}
		last := lastByRule(l, 3, 1)
		for _, seq := range append(numbersUpTo(12), c.want-1, c.want, c.want+1, most-1, most) {
			want := api.Errno(11)
			onTheWay := slices.Contains(way, api.Record{Producer: 3, Seq: seq, Part: 1})
			if seq == c.want || seq <= last || onTheWay {
				want = 0
			}
			if seq < 0 {
				want = 3
			}
			wantCheck(t, l, way, api.Record{Producer: 3, Seq: seq, Part: 1}, want)
		}
	}
}

func numbersUpTo(n int) []int {
	var all []int
	for i := range n {
		all = append(all, i)
	}
	return all
}

// P15.2: so many records of the producer in Open and on the way, in all partitions.
func TestProducerIsBusy(t *testing.T) {
	for there := range 41 {
		for open := range there + 1 {
			onTheWay := there - open
			for _, part := range []int{1, 2, 7} {
				l := taken(3, part, 100)
				l.Open = append(many(3, part, 101-open, open), others(150)...)
				way := append(others(100), many(3, part, 101, onTheWay)...)
				next := api.Record{Producer: 3, Seq: 101 + onTheWay, Part: part}
				want := api.OK
				if there >= 32 {
					want = api.ErrBusy
				}
				wantCheck(t, l, way, next, want)
				// In another partition the producer is just as busy.
				wantCheck(t, l, way, api.Record{Producer: 3, Part: 5}, want)
				wantCheck(t, l, way, api.Record{Producer: 3, Part: 5, Seq: 1}, api.ErrGap)
				// Other producers aren't.
				wantCheck(t, l, way, api.Record{Producer: 60, Part: part}, api.OK)
			}
		}
	}
}

// P15.2: records of the producer in several partitions are added up; doubled ones count twice, and those that aren't in form count too.
func TestProducerIsBusyInAll(t *testing.T) {
	var mixed []api.Record
	for i := range 31 {
		mixed = append(mixed, api.Record{Producer: 3, Seq: []int{0, 0, -5, most, i}[i%5], Part: []int{0, 2, 3, 9, least}[i/5%5], Key: strings.Repeat("k", i*3)})
	}
	one := api.Record{Producer: 3, Seq: 0, Part: 4}
	r := api.Record{Producer: 3, Seq: 0, Part: 1}
	for open := range len(mixed) + 1 {
		l := api.Ledger{Open: mixed[:open]}
		way := slices.Clone(mixed[open:])
		wantCheck(t, l, way, r, 0)
		wantCheck(t, l, append(way, one), r, 10)
		wantCheck(t, l, append(way, one, one), r, 10)
		l.Open = append(slices.Clone(l.Open), one)
		wantCheck(t, l, way, r, 10)
	}
	// What stands in batches, or has the same number in another place, doesn't count.
	l := taken(3, 1, 99)
	l.Batches = []api.Batch{{Records: many(3, 1, 0, 50)}, {Epoch: 1, Records: many(3, 1, 50, 50)}}
	l.Open = many(1, 3, 0, 60)
	wantCheck(t, l, many(2, 3, 0, 60), api.Record{Producer: 3, Seq: 100, Part: 1}, 0)
}

// P15.2: so many records on the way, whosever they are.
func TestWayIsFull(t *testing.T) {
	r := api.Record{Producer: 3, Part: 1}
	for n := range 300 {
		want := api.OK
		if n >= 256 {
			want = api.ErrBusy
		}
		wantCheck(t, api.Ledger{}, others(n), r, want)
		wantCheck(t, api.Ledger{Open: others(200)}, others(n), r, want)
		wantCheck(t, api.Ledger{}, make([]api.Record, n), r, want)
	}
	odd := slices.Repeat([]api.Record{{Producer: 64, Seq: -1, Part: 8}}, 255)
	wantCheck(t, api.Ledger{}, odd, r, 0)
	wantCheck(t, api.Ledger{}, append(odd, odd[0]), r, 10)
	// Open isn't on the way.
	wantCheck(t, api.Ledger{Open: others(300)}, others(200), r, 0)
}

// P15.2: so many records in Open and on the way together, whosever they are.
func TestEpochIsFull(t *testing.T) {
	r := api.Record{Producer: 3, Part: 1}
	for onTheWay := range 260 {
		for _, there := range []int{max(onTheWay, 500), 510, 511, 512, 513, 514, 600, 1024} {
			want := api.OK
			if onTheWay >= 256 || there >= 512 {
				want = api.ErrBusy
			}
			wantCheck(t, api.Ledger{Open: others(there - onTheWay)}, others(onTheWay), r, want)
		}
	}
	// What stands in batches doesn't count.
	wantCheck(t, api.Ledger{Batches: []api.Batch{{Records: others(512)}, {Epoch: 1, Records: others(512)}}, Sealed: 2}, others(255), r, 0)
}

// P15.2: a gap is told ahead of each limit.
func TestGapAheadOfBusy(t *testing.T) {
	r := api.Record{Producer: 3, Part: 1, Seq: 9}
	for _, l := range []api.Ledger{{Open: many(3, 2, 0, 32)}, {Open: others(512)}, {Open: many(3, 1, 0, 512)}} {
		wantCheck(t, l, nil, r, 11)
		l.Rows = taken(3, 1, 8).Rows
		wantCheck(t, l, nil, r, 10)
	}
	for _, way := range [][]api.Record{others(256), others(300), many(3, 2, 0, 32), many(3, 2, 0, 300)} {
		wantCheck(t, api.Ledger{}, way, r, 11)
		wantCheck(t, taken(3, 1, 8), way, r, 10)
	}
}
