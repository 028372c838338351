package parts

import (
	"math/rand"
	"slices"
	"strings"
	"testing"

	"millrace/api"
	"millrace/dedup"
)

func anyRecord(r *rand.Rand) api.Record {
	key := strings.Repeat(string(rune('a'+r.Intn(3))), []int{0, 1, 1, 2, 32}[r.Intn(5)])
	return api.Record{Producer: r.Intn(64), Seq: anyNumber(r), Part: r.Intn(8), Key: key, Val: r.Uint32()}
}

// anyNumber isn't below 0.
func anyNumber(r *rand.Rand) int {
	return []int{0, 0, 1, 1, 2, 3, r.Intn(1000), 1 << 32, 1 << 62, most - 1, most}[r.Intn(11)]
}

func anyRecords(r *rand.Rand) []api.Record {
	var l []api.Record
	for range []int{0, 0, 1, 1, 2, 3, 5, 9}[r.Intn(8)] {
		l = append(l, anyRecord(r))
	}
	return l
}

func anyRows(r *rand.Rand) []api.Row {
	var rows []api.Row
	for producer := range 64 {
		for part := range 8 {
			if r.Intn(100) == 0 {
				rows = append(rows, api.Row{Producer: producer, Part: part, Last: anyNumber(r)})
			}
		}
	}
	return rows
}

// anyLedger is in form; most often no entries come to it.
func anyLedger(r *rand.Rand) api.Ledger {
	l := api.Ledger{Rows: anyRows(r), Open: anyRecords(r), Keep: []int{0, 0, 1, 2, 5, 63, 64}[r.Intn(7)]}
	if r.Intn(40) == 0 {
		l.Open = many(1, 1, 0, 511+r.Intn(2))
	}
	if r.Intn(5) > 0 {
		l.Deployed, l.Graph = true, []api.Graph{plain(), joined()}[r.Intn(2)]
		waiting := []int{0, 0, 1, 1, 2, 3, 63, 64}[r.Intn(8)]
		gone := []int{0, 0, 0, 1, 2, 60, 1 << 40, most - 200}[r.Intn(8)]
		kept := []int{0, 0, 1, 2, 4, 70}[r.Intn(6)]
		l.Decided = gone + kept
		l.Sealed = l.Decided + waiting
		if r.Intn(20) == 0 {
			l.Sealed, l.Decided = most, most-waiting
		}
		for epoch := l.Decided - kept; epoch < l.Sealed; epoch++ {
			l.Batches = append(l.Batches, api.Batch{Epoch: epoch, Records: anyRecords(r)})
		}
	}
	for part := range l.Counts {
		l.Counts[part] = len(thereByRule(l, part)) + []int{0, 0, 0, 1, 100, 1 << 40}[r.Intn(6)]
		if r.Intn(10) == 0 {
			l.Counts[part] = most - r.Intn(2)
		}
	}
	return l
}

// anyEntry is in form, and most often means something to the ledger.
func anyEntry(r *rand.Rand, l api.Ledger) api.Entry {
	near := func(n int) int { return min(max(n-1, 0), most-2) + r.Intn(3) }
	switch r.Intn(9) {
	case 0:
		return noop()
	case 1, 2, 3:
		rec := anyRecord(r)
		if len(l.Rows) > 0 && r.Intn(3) > 0 {
			row := l.Rows[r.Intn(len(l.Rows))]
			rec.Producer, rec.Part = row.Producer, row.Part
		}
		rec.Seq = near(max(0, dedup.Last(l.Rows, rec.Producer, rec.Part)))
		return record(rec)
	case 4, 5:
		return sealing(near(l.Sealed))
	case 6:
		return deploying(append(wrongGraphs(), plain(), joined(), plain())[r.Intn(10)])
	case 7:
		return deciding(near(l.Decided))
	}
	return keeping([]int{0, 1, 2, 5, 63, 64, 65, most}[r.Intn(8)])
}

// spoilAny changes one thing; most often the ledger is in form no more.
func spoilAny(r *rand.Rand, l *api.Ledger) {
	far := []int{-1, 0, 1, 2, 7, 8, 63, 64, 65, 512, 1 << 32, most - 1, most, least}[r.Intn(14)]
	var epoch *[]api.Record = &l.Open
	if len(l.Batches) > 0 && r.Intn(3) > 0 {
		epoch = &l.Batches[r.Intn(len(l.Batches))].Records
	}
	switch what := r.Intn(14); {
	case what == 0:
		l.Counts[r.Intn(8)] = far
	case what == 1:
		l.Counts[r.Intn(8)]--
	case what == 2:
		l.Sealed = []int{far, l.Sealed + 1, l.Sealed - 1}[r.Intn(3)]
	case what == 3:
		l.Decided = []int{far, l.Decided + 1, l.Decided - 1}[r.Intn(3)]
	case what == 4:
		l.Keep = far
	case what == 5:
		l.Deployed = !l.Deployed
	case what == 6:
		l.Graph = append(wrongGraphs(), plain())[r.Intn(8)]
	case what == 7 && len(l.Rows) > 0:
		row := &l.Rows[r.Intn(len(l.Rows))]
		*[]*int{&row.Producer, &row.Part, &row.Last}[r.Intn(3)] = far
	case what == 8 && len(*epoch) > 0:
		rec := &(*epoch)[r.Intn(len(*epoch))]
		*[]*int{&rec.Producer, &rec.Seq, &rec.Part}[r.Intn(3)] = far
	case what == 9 && len(*epoch) > 0:
		(*epoch)[0].Key += strings.Repeat("x", r.Intn(34))
	case what == 10:
		*epoch = append(*epoch, anyRecord(r))
	case what == 11 && len(l.Batches) > 0:
		at := r.Intn(len(l.Batches))
		l.Batches[at].Epoch = []int{far, l.Batches[at].Epoch + 1, l.Batches[at].Epoch - 1}[r.Intn(3)]
	case what == 12 && len(l.Batches) > 0:
		at := r.Intn(len(l.Batches))
		l.Batches = slices.Delete(l.Batches, at, at+1)
	case what == 13:
		l.Batches = append(l.Batches, api.Batch{Epoch: l.Sealed - r.Intn(2)})
	}
}

// wantByRule asks all calls of a ledger, in form or not.
func wantByRule(t *testing.T, r *rand.Rand, l api.Ledger) {
	t.Helper()
	good := goodByRule(l)
	wantGood(t, l, good)
	e := anyEntry(r, l)
	if !good {
		wantApply(t, l, e, api.Ledger{}, false, 3)
		wantFetch(t, l, r.Intn(10)-1, r.Intn(3), r.Intn(3)-1, nil, 0, 3)
		wantFirst(t, l, r.Intn(8), 0)
		wantBatch(t, l, l.Decided, nil, 3)
		return
	}
	want, changed, err := applyByRule(l, e)
	wantApply(t, l, e, want, changed, err)
	part := r.Intn(8)
	all := thereByRule(l, part)
	from := l.Counts[part] - len(all)
	wantFirst(t, l, part, from)
	skipped, count := r.Intn(len(all)+1), []int{0, 1, 2, r.Intn(9), most}[r.Intn(5)]
	taken := all[skipped:][:min(count, len(all)-skipped)]
	wantFetch(t, l, part, from+skipped, count, taken, from+skipped+len(taken), 0)
	for epoch := max(0, l.Sealed-3); epoch < l.Sealed; epoch++ {
		if b := batchByRule(l, epoch); b != nil {
			wantBatch(t, l, epoch, b.Records, 0)
		} else {
			wantBatch(t, l, epoch, nil, 7)
		}
	}
}

// P14.1 to P14.3: ledgers by chance, as they are and spoilt, against the chapter's rules.
func TestByRule(t *testing.T) {
	r := rand.New(rand.NewSource(14))
	good := 0
	for range 6000 {
		l := anyLedger(r)
		if !goodByRule(l) {
			t.Fatalf("%v isn't in form", l)
		}
		wantByRule(t, r, l)
		spoilAny(r, &l)
		if goodByRule(l) {
			good++
		}
		wantByRule(t, r, l)
	}
	if good < 500 || good > 5000 {
		t.Errorf("%d spoilt ones are in form", good)
	}
}

// lists gives all lists of up to so many numbers.
func lists(numbers []int, length int) [][]int {
	all := [][]int{nil}
	for from := 0; length > 0; length-- {
		to := len(all)
		for _, l := range all[from:to] {
			for _, n := range numbers {
				all = append(all, append(slices.Clone(l), n))
			}
		}
		from = to
	}
	return all
}

// P14.1: all small numbers of sealed, decided and kept epochs with all short lists of batches.
func TestSmallNumbers(t *testing.T) {
	for _, epochs := range lists([]int{-1, 0, 1, 2, 3}, 3) {
		var batches []api.Batch
		for _, epoch := range epochs {
			batches = append(batches, api.Batch{Epoch: epoch})
		}
		for sealed := -2; sealed < 5; sealed++ {
			for decided := -2; decided < 5; decided++ {
				for _, g := range []api.Graph{{}, plain(), wrongGraphs()[1]} {
					l := api.Ledger{Batches: batches, Sealed: sealed, Decided: decided, Graph: g, Keep: (sealed+4*decided+3)%4 - 1}
					wantGood(t, l, goodByRule(l))
					l.Deployed = true
					wantGood(t, l, goodByRule(l))
					l.Keep = 0
					wantGood(t, l, goodByRule(l))
				}
			}
		}
	}
}

// P14.1: how many epochs may wait, whatever is kept.
func TestHowManyWait(t *testing.T) {
	for waiting := range 130 {
		for kept := range 3 {
			l := ledgerOf(0, "")
			for n := range waiting + kept {
				l.Batches = append(l.Batches, api.Batch{Epoch: 7 + n})
			}
			l.Decided = 7 + kept
			l.Sealed = l.Decided + waiting
			wantGood(t, l, waiting <= 64)
		}
	}
}

// P14.1: how many records an epoch may have, whichever it is.
func TestHowManyRecords(t *testing.T) {
	for _, count := range []int{511, 512, 513, 514, 1024, 5000} {
		for epoch := range 3 {
			l := ledgerOf(1, "", "", "")
			l.Counts[2] = count
			if epoch == 2 {
				l.Open = many(0, 2, 0, count)
			} else {
				l.Batches[epoch].Records = many(0, 2, 0, count)
			}
			wantGood(t, l, count <= 512)
		}
	}
}

// P14.1: each partition's count, against records in batches and in the open epoch.
func TestCounts(t *testing.T) {
	for part := range 8 {
		l := ledgerOf(1, "", "", "")
		for at := range 3 {
			records := many(at, part, 0, at+1)
			if at == 2 {
				l.Open = records
			} else {
				l.Batches[at].Records = records
			}
		}
		for count := -1; count < 9; count++ {
			l.Counts = [8]int{9, 9, 9, 9, 9, 9, 9, 9}
			l.Counts[part] = count
			wantGood(t, l, count >= 6)
		}
		l.Counts = [8]int{}
		l.Counts[part] = 6
		wantGood(t, l, true)
		l.Counts[(part+1)%8] = -1
		wantGood(t, l, false)
	}
}

// P14.1: each number at its ends and far off.
func TestFarNumbers(t *testing.T) {
	for _, n := range []int{-1, -2, -64, least, least + 1, -1 << 32, 64, 65, 66, 128, 256, 1 << 31, 1 << 32, most - 64, most - 1, most} {
		for _, l := range []api.Ledger{{}, ledgerOf(0, ""), ledgerOf(1, "3.0.2", ""), ledgerOf(0, "3.0.2", "3.1.2", "")} {
			for _, change := range []func(*api.Ledger){
				func(l *api.Ledger) { l.Keep = n },
				func(l *api.Ledger) { l.Sealed = n },
				func(l *api.Ledger) { l.Decided = n },
				func(l *api.Ledger) { l.Sealed, l.Decided = n, n },
				func(l *api.Ledger) { l.Sealed, l.Decided = n, -1 },
				func(l *api.Ledger) { l.Sealed, l.Decided = n, 1 },
				func(l *api.Ledger) { l.Sealed, l.Decided = most, n },
				func(l *api.Ledger) { l.Sealed, l.Decided = 0, n },
				func(l *api.Ledger) { l.Batches = []api.Batch{{Epoch: n}} },
				func(l *api.Ledger) { l.Batches, l.Sealed, l.Decided = []api.Batch{{Epoch: n}}, n+1, n },
				func(l *api.Ledger) { l.Batches, l.Sealed, l.Decided = []api.Batch{{Epoch: n}}, n+1, n+1 },
				func(l *api.Ledger) { l.Batches, l.Sealed, l.Decided = []api.Batch{{Epoch: n}}, n, n },
				func(l *api.Ledger) { l.Counts[5] = n },
			} {
				l := with(l, change)
				wantGood(t, l, goodByRule(l))
			}
		}
	}
}
