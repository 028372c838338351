package quota

import (
	"math/rand"
	"testing"

	"millrace/api"
)

func wantByRule(t *testing.T, l api.Ledger, way []api.Record, r api.Record) {
	t.Helper()
	wantCheck(t, l, way, r, checkByRule(l, way, r))
	wantOf(t, l, r.Producer, ofByRule(l.Open, r.Producer))
}

// P15.2: all last numbers, all ways of up to four records among five, and all numbers, of a few.
func TestAllSmall(t *testing.T) {
	some := recordsOf("3.0.1 3.1.1 3.2.1 3.-1.1 2.1.1")
	for last := -4; last < 4; last++ {
		l := taken(3, 1, last)
		if last == -4 {
			l = api.Ledger{}
		}
		for at := range 6 * 6 * 6 * 6 {
			var way []api.Record
			for ; at > 0; at /= 6 {
				if at%6 > 0 {
					way = append(way, some[at%6-1])
				}
			}
			for seq := -1; seq < 6; seq++ {
				wantByRule(t, l, way, api.Record{Producer: 3, Seq: seq, Part: 1})
			}
		}
	}
}

// P15.2: the same at the end of all numbers.
func TestAllAtTheEnd(t *testing.T) {
	for behind := range 5 {
		last := most - behind
		for which := range 1 << 5 {
			var way []api.Record
			for i := range 5 {
				if which>>i&1 == 1 {
					way = append(way, api.Record{Producer: 3, Seq: most - i, Part: 1})
				}
			}
			for i := range 6 {
				wantByRule(t, taken(3, 1, last), way, api.Record{Producer: 3, Seq: most - i, Part: 1})
			}
		}
	}
}

func pick(r *rand.Rand, numbers ...int) int { return numbers[r.Intn(len(numbers))] }

// anyRecord is of few producers and partitions, now and then of none.
func anyRecord(r *rand.Rand, from int) api.Record {
	record := api.Record{Producer: r.Intn(3), Seq: from + r.Intn(6), Part: r.Intn(2), Key: "k", Val: r.Uint32()}
	if r.Intn(40) == 0 {
		record.Producer = pick(r, -1, 63, 64, most, least)
	}
	if r.Intn(40) == 0 {
		record.Seq = pick(r, -1, 0, most-1, most, least)
	}
	if r.Intn(40) == 0 {
		record.Part = pick(r, -1, 7, 8, most, least)
	}
	return record
}

// anyRecords are most often a producer's numbers in their order, with a hole here and there.
func anyRecords(r *rand.Rand, many, from int) []api.Record {
	var records []api.Record
	next := map[[2]int]int{}
	for range many {
		record := anyRecord(r, from)
		owner := [2]int{record.Producer, record.Part}
		if r.Intn(10) > 0 {
			record.Seq = from + next[owner]
			next[owner]++
		}
		records = append(records, record)
	}
	if r.Intn(3) == 0 {
		r.Shuffle(many, func(i, j int) { records[i], records[j] = records[j], records[i] })
	}
	return records
}

func anyLedger(r *rand.Rand, from int) api.Ledger {
	var l api.Ledger
	for producer := range 3 {
		for part := range 2 {
			if r.Intn(4) > 0 {
				l.Rows = append(l.Rows, api.Row{Producer: producer, Part: part, Last: from - 1 + r.Intn(3)})
			}
			if r.Intn(8) == 0 {
				l.Rows = append(l.Rows, api.Row{Producer: producer, Part: part, Last: pick(r, -5, -1, least, most, most-1, 0)})
			}
		}
	}
	for part := range l.Counts {
		l.Counts[part] = pick(r, 0, 5, 5, 5, 5, 5, 5, most-1, most)
	}
	l.Open = anyRecords(r, pick(r, 0, 5, 20, 70, 90, 255, 256, 257, 511, 512, 513), max(from-4, 0))
	return l
}

// P15.1, P15.2: ledgers and ways by chance.
func TestChance(t *testing.T) {
	r := rand.New(rand.NewSource(15))
	seen := map[api.Errno]int{}
	for range 20000 {
		from := pick(r, 0, 1, 5, 1<<32, most-300)
		l := anyLedger(r, from)
		way := anyRecords(r, pick(r, 0, 1, 3, 5, 10, 30, 60, 80, 255, 256, 257), from)
		for range 5 {
			record := anyRecord(r, from)
			if r.Intn(2) == 0 {
				record.Seq = from + r.Intn(50)
			}
			wantByRule(t, l, way, record)
			seen[checkByRule(l, way, record)]++
		}
		record := nextByRule(l, way, r.Intn(3), r.Intn(2))
		wantByRule(t, l, way, record)
		seen[checkByRule(l, way, record)]++
	}
	for _, e := range []api.Errno{0, 3, 10, 11, 14} {
		if seen[e] < 1000 {
			t.Errorf("%d was asked for %d times", e, seen[e])
		}
	}
}

// nextByRule is the record that the producer would hand in next.
func nextByRule(l api.Ledger, way []api.Record, producer, part int) api.Record {
	r := api.Record{Producer: producer, Seq: lastByRule(l, producer, part), Part: part}
	for there := true; there && r.Seq < most; {
		r.Seq++
		there = false
		for _, w := range way {
			there = there || w.Producer == producer && w.Part == part && w.Seq == r.Seq
		}
	}
	return r
}

// P1, P15.2: a way of very many records, in any order: the one that is missing is the first free one.
func TestLongWay(t *testing.T) {
	way := many(3, 1, 0, 100000)
	r := rand.New(rand.NewSource(2))
	r.Shuffle(len(way), func(i, j int) { way[i], way[j] = way[j], way[i] })
	missing := way[len(way)-1]
	way = way[:len(way)-1]
	wantCheck(t, api.Ledger{}, way, missing, 10)
	for range 5 {
		wantCheck(t, api.Ledger{}, way, way[r.Intn(len(way))], 0)
	}
	for _, seq := range []int{100000, 100001, most} {
		wantCheck(t, api.Ledger{}, way, api.Record{Producer: 3, Seq: seq, Part: 1}, 11)
	}
	wantCheck(t, taken(3, 1, missing.Seq), way, api.Record{Producer: 3, Seq: 100000, Part: 1}, 10)
	wantOf(t, api.Ledger{Open: way}, 3, 99999)
}

// P1: all calls end at all numbers.
func TestAllNumbers(t *testing.T) {
	numbers := []int{least, least + 1, -1 << 32, -1, 0, 1, 7, 8, 31, 32, 63, 64, 1 << 32, most - 1, most}
	for _, a := range numbers {
		for _, b := range numbers {
			for _, c := range numbers {
				r := api.Record{Producer: a, Seq: b, Part: c}
				for _, last := range numbers {
					l := taken(a, c, last)
					l.Open = []api.Record{r}
					wantByRule(t, l, []api.Record{r}, r)
					wantByRule(t, l, nil, r)
					wantByRule(t, taken(0, 0, last), []api.Record{r}, api.Record{Seq: b})
					wantByRule(t, taken(0, 0, last), []api.Record{{Seq: a}}, api.Record{Seq: b})
				}
			}
		}
	}
}
