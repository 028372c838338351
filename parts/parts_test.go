package parts

import (
	"fmt"
	"math"
	"reflect"
	"slices"
	"strings"
	"testing"

	"millrace/api"
	"millrace/dedup"
	"millrace/graph"
)

// The signatures.
var (
	_ func(api.Ledger) bool                                          = Good
	_ func(api.Ledger, api.Entry) (api.Ledger, bool, api.Errno)      = Apply
	_ func(api.Ledger, int, int, int) ([]api.Record, int, api.Errno) = Fetch
	_ func(api.Ledger, int) int                                      = First
	_ func(api.Ledger, int) ([]api.Record, api.Errno)                = Batch
	_ func(api.Ledger) ([]string, api.Errno)                         = Encode
	_ func([]string) (api.Ledger, api.Errno)                         = Decode
)

const (
	most  = math.MaxInt
	least = math.MinInt
)

// The entries.

func noop() api.Entry { return api.Entry{} }

func record(r api.Record) api.Entry { return api.Entry{Kind: 1, Rec: r} }

func sealing(n int) api.Entry { return api.Entry{Kind: 2, N: n} }

func deploying(g api.Graph) api.Entry { return api.Entry{Kind: 3, Graph: g} }

func deciding(n int) api.Entry { return api.Entry{Kind: 4, N: n} }

func keeping(n int) api.Entry { return api.Entry{Kind: 5, N: n} }

// plain is a graph that is right: what comes in goes out.
func plain() api.Graph {
	return api.Graph{Ops: []api.Op{{Kind: 1, Arg: -1}, {Kind: 8, In: []int{0}}}}
}

// joined is one with longer lists.
func joined() api.Graph {
	return api.Graph{Ops: []api.Op{
		{Kind: 1, Arg: 3},
		{Kind: 2, In: []int{0}, Arg: 1, Num: math.MaxUint32},
		{Kind: 5, In: []int{0, 1}, Arg: 2},
		{Kind: 7, In: []int{2}, Arg: 1, Num: 7, Rounds: 16, Test: 1, Lim: math.MaxUint32},
		{Kind: 8, In: []int{3}},
	}}
}

// wrongGraphs are in form as entries have them, and aren't right.
func wrongGraphs() []api.Graph {
	return []api.Graph{
		{},
		{Ops: []api.Op{{Kind: 8}}},
		{Ops: []api.Op{{Kind: 1, Arg: -1}}},
		{Ops: []api.Op{{Kind: 1, Arg: -2}, {Kind: 8, In: []int{0}}}},
		{Ops: []api.Op{{Kind: 1, Arg: 8}, {Kind: 8, In: []int{0}}}},
		{Ops: []api.Op{{Kind: 1}, {Kind: 8, In: []int{1}}}},
		{Ops: []api.Op{{Kind: 1}, {Kind: 9, In: []int{0}}, {Kind: 8, In: []int{1}}}},
	}
}

// recordsOf makes records of a text: "3.0.2 3.1.2" are the numbers 0 and 1 of the producer 3 in the partition 2. Key and value follow from them.
func recordsOf(text string) []api.Record {
	var l []api.Record
	for _, word := range strings.Fields(text) {
		var producer, seq, part int
		if _, e := fmt.Sscanf(word, "%d.%d.%d", &producer, &seq, &part); e != nil {
			panic(word)
		}
		l = append(l, recordOf(producer, seq, part))
	}
	return l
}

func recordOf(producer, seq, part int) api.Record {
	return api.Record{Producer: producer, Seq: seq, Part: part, Key: fmt.Sprintf("k%d", seq%3), Val: uint32(producer*1000 + seq*10 + part)}
}

// many makes so many records of one producer in one partition.
func many(producer, part, from, count int) []api.Record {
	var l []api.Record
	for i := range count {
		l = append(l, recordOf(producer, from+i, part))
	}
	return l
}

// ledgerOf: of texts, the last one of the open epoch, those ahead of it of sealed ones, of which so many are decided. No record ahead of them has been there.
func ledgerOf(decided int, texts ...string) api.Ledger {
	l := api.Ledger{Deployed: true, Graph: plain(), Decided: decided, Sealed: len(texts) - 1}
	for epoch, text := range texts[:l.Sealed] {
		l.Batches = append(l.Batches, api.Batch{Epoch: epoch, Records: recordsOf(text)})
	}
	l.Open = recordsOf(texts[l.Sealed])
	for _, r := range allByRule(l) {
		l.Rows, _ = dedup.Take(l.Rows, r.Producer, r.Part, r.Seq)
		l.Counts[r.Part]++
	}
	return l
}

// with answers the ledger, changed.
func with(l api.Ledger, change func(*api.Ledger)) api.Ledger {
	l = cloned(l)
	change(&l)
	return l
}

func cloned(l api.Ledger) api.Ledger {
	own := l
	own.Rows = append([]api.Row(nil), l.Rows...)
	own.Open = append([]api.Record(nil), l.Open...)
	own.Batches = nil
	for _, b := range l.Batches {
		own.Batches = append(own.Batches, api.Batch{Epoch: b.Epoch, Records: append([]api.Record(nil), b.Records...)})
	}
	own.Graph = clonedGraph(l.Graph)
	return own
}

func clonedGraph(g api.Graph) api.Graph {
	var own api.Graph
	for _, op := range g.Ops {
		op.In = append([]int(nil), op.In...)
		own.Ops = append(own.Ops, op)
	}
	return own
}

// same: nil and empty lists are the same, which cloned makes nil.
func same(a, b api.Ledger) bool { return reflect.DeepEqual(cloned(a), cloned(b)) }

func isZero(l api.Ledger) bool { return reflect.DeepEqual(l, api.Ledger{}) }

// The chapter's rules.

func inForm(r api.Record) bool {
	return r.Producer >= 0 && r.Producer <= 63 && r.Seq >= 0 && r.Part >= 0 && r.Part <= 7 && len(r.Key) <= 32
}

// allByRule: the records that are there, in their order.
func allByRule(l api.Ledger) []api.Record {
	var all []api.Record
	for _, b := range l.Batches {
		all = append(all, b.Records...)
	}
	return append(all, l.Open...)
}

// thereByRule: a partition's records that are there.
func thereByRule(l api.Ledger, part int) []api.Record {
	return slices.DeleteFunc(allByRule(l), func(r api.Record) bool { return r.Part != part })
}

func goodByRule(l api.Ledger) bool {
	if !dedup.Good(l.Rows) || len(l.Open) > 512 {
		return false
	}
	for i, b := range l.Batches {
		if len(b.Records) > 512 || b.Epoch < 0 {
			return false
		}
		if i > 0 && b.Epoch-1 != l.Batches[i-1].Epoch || i == len(l.Batches)-1 && b.Epoch != l.Sealed-1 {
			return false
		}
	}
	for _, r := range allByRule(l) {
		if !inForm(r) {
			return false
		}
	}
	for part, count := range l.Counts {
		if count < 0 || count < len(thereByRule(l, part)) {
			return false
		}
	}
	if l.Decided < 0 || l.Decided > l.Sealed || l.Sealed-l.Decided > 64 || l.Keep < 0 || l.Keep > 64 {
		return false
	}
	for epoch := l.Decided; epoch < l.Sealed; epoch++ {
		if batchByRule(l, epoch) == nil {
			return false
		}
	}
	if !l.Deployed {
		return len(l.Graph.Ops) == 0 && l.Sealed == 0
	}
	_, e := graph.Check(l.Graph)
	return e == 0
}

func batchByRule(l api.Ledger, epoch int) *api.Batch {
	for i := range l.Batches {
		if l.Batches[i].Epoch == epoch {
			return &l.Batches[i]
		}
	}
	return nil
}

// applyByRule is asked of a ledger and an entry in form.
func applyByRule(l api.Ledger, e api.Entry) (api.Ledger, bool, api.Errno) {
	old, l := l, cloned(l)
	switch e.Kind {
	case 0:
		return l, false, 0
	case 1:
		r := e.Rec
		last := dedup.Last(l.Rows, r.Producer, r.Part)
		switch {
		case r.Seq <= last && !(r.Seq == last && last == most):
			return old, false, 0
		case r.Seq > last && r.Seq-1 > last:
			return old, false, 11
		case r.Seq == last, l.Counts[r.Part] == most:
			return old, false, 14
		case len(l.Open) == 512:
			return old, false, 10
		}
		l.Rows = slices.DeleteFunc(l.Rows, func(row api.Row) bool { return row.Producer == r.Producer && row.Part == r.Part })
		l.Rows = append(l.Rows, api.Row{Producer: r.Producer, Part: r.Part, Last: r.Seq})
		slices.SortFunc(l.Rows, func(a, b api.Row) int { return a.Producer*8 + a.Part - b.Producer*8 - b.Part })
		l.Open = append(l.Open, r)
		l.Counts[r.Part]++
	case 2:
		if !l.Deployed || e.N != l.Sealed {
			return old, false, 9
		}
		if l.Sealed == most {
			return old, false, 14
		}
		if l.Sealed-l.Decided >= 64 {
			return old, false, 10
		}
		l.Batches = append(l.Batches, api.Batch{Epoch: e.N, Records: l.Open})
		l.Open, l.Sealed = nil, l.Sealed+1
	case 3:
		if l.Deployed {
			return old, false, 9
		}
		if _, wrong := graph.Check(e.Graph); wrong != 0 {
			return old, false, 13
		}
		l.Deployed, l.Graph = true, e.Graph
	case 4:
		if e.N != l.Decided || e.N == l.Sealed {
			return old, false, 9
		}
		l.Decided++
	case 5:
		if e.N > 64 {
			return old, false, 1
		}
		l.Keep = e.N
	}
	for e.Kind >= 4 && len(l.Batches) > 0 && l.Decided-l.Batches[0].Epoch > l.Keep {
		l.Batches = l.Batches[1:]
	}
	return l, true, 0
}

// What is wanted.

func wantApply(t *testing.T, l api.Ledger, e api.Entry, want api.Ledger, changed bool, err api.Errno) api.Ledger {
	t.Helper()
	got, is, errno := Apply(l, e)
	if !same(got, want) || is != changed || errno != err {
		t.Errorf("Apply(%v, %v)\n= %v, %v, %d;\nwant %v, %v, %d", l, e, got, is, errno, want, changed, err)
	}
	return got
}

// wantRefused: the ledger stays.
func wantRefused(t *testing.T, l api.Ledger, e api.Entry, err api.Errno) {
	t.Helper()
	wantApply(t, l, e, l, false, err)
}

// wantDone: the entry does what is said.
func wantDone(t *testing.T, l api.Ledger, e api.Entry, change func(*api.Ledger)) api.Ledger {
	t.Helper()
	return wantApply(t, l, e, with(l, change), true, 0)
}

func wantFetch(t *testing.T, l api.Ledger, part, from, count int, want []api.Record, behind int, err api.Errno) {
	t.Helper()
	got, next, errno := Fetch(l, part, from, count)
	if !slices.Equal(got, want) || next != behind || errno != err {
		t.Errorf("Fetch(%v, %d, %d, %d)\n= %v, %d, %d;\nwant %v, %d, %d", l, part, from, count, got, next, errno, want, behind, err)
	}
}

func wantFirst(t *testing.T, l api.Ledger, part, want int) {
	t.Helper()
	if got := First(l, part); got != want {
		t.Errorf("First(%v, %d) = %d, want %d", l, part, got, want)
	}
}

func wantBatch(t *testing.T, l api.Ledger, epoch int, want []api.Record, err api.Errno) {
	t.Helper()
	got, errno := Batch(l, epoch)
	if !slices.Equal(got, want) || errno != err {
		t.Errorf("Batch(%v, %d) = %v, %d; want %v, %d", l, epoch, got, errno, want, err)
	}
}

func wantGood(t *testing.T, l api.Ledger, want bool) {
	t.Helper()
	if got := Good(l); got != want {
		t.Errorf("Good(%v) = %v", l, got)
	}
}

// run applies entries, one by one, each of which has to be done.
func run(t *testing.T, l api.Ledger, entries ...api.Entry) api.Ledger {
	t.Helper()
	for _, e := range entries {
		next, changed, err := Apply(l, e)
		if !changed || err != 0 {
			t.Fatalf("Apply(%v, %v) = %v, %d", l, e, changed, err)
		}
		l = next
	}
	return l
}

// P14.1 to P14.3: the chapter's examples.
func TestExamples(t *testing.T) {
	r := api.Record{Producer: 0, Seq: 0, Part: 2, Key: "a", Val: 1}
	l := run(t, api.Ledger{}, deploying(plain()), record(r), sealing(0))
	if l.Counts != [8]int{2: 1} {
		t.Errorf("%v", l.Counts)
	}
	wantBatch(t, l, 0, []api.Record{r}, 0)
	wantRefused(t, l, sealing(0), 9)
	wantFirst(t, l, 2, 0)
	wantFetch(t, l, 2, 0, 9, []api.Record{r}, 1, 0)
	l = run(t, l, deciding(0))
	wantBatch(t, l, 0, nil, 7)
	wantFirst(t, l, 2, 1)
	wantFetch(t, l, 2, 0, 9, nil, 0, 8)
	wantRefused(t, api.Ledger{}, sealing(0), 9)
	wantRefused(t, api.Ledger{}, record(api.Record{Seq: 1}), 11)
}

// P14.1: ledgers in form, written by hand.
func TestGoodByHand(t *testing.T) {
	deployed := api.Ledger{Deployed: true, Graph: plain()}
	three := ledgerOf(1, "3.0.2 4.0.2", "3.1.2", "", "5.0.0 3.2.2")
	for _, l := range []api.Ledger{
		{}, {Rows: []api.Row{}, Open: []api.Record{}, Batches: []api.Batch{}, Graph: api.Graph{Ops: []api.Op{}}},
		{Keep: 64}, {Counts: [8]int{most, 0, 0, 0, 0, 0, 0, most}}, {Rows: []api.Row{{Producer: 63, Part: 7, Last: most}}},
		{Open: recordsOf("3.9.7"), Counts: [8]int{7: 1}}, {Open: many(0, 0, 0, 512), Counts: [8]int{512}},
		deployed, {Deployed: true, Graph: joined()}, three,
		with(three, func(l *api.Ledger) { l.Graph = joined() }),
		with(three, func(l *api.Ledger) { l.Decided = 0 }),
		with(three, func(l *api.Ledger) { l.Decided = 2 }),
		with(three, func(l *api.Ledger) { l.Decided = 3 }),
		with(three, func(l *api.Ledger) { l.Batches = l.Batches[1:] }),
		with(three, func(l *api.Ledger) { l.Rows = nil }),
		with(three, func(l *api.Ledger) { l.Keep = 1 }),
		with(three, func(l *api.Ledger) { l.Counts = [8]int{1 << 40, 0, 4} }),
		with(three, func(l *api.Ledger) { l.Batches[2].Records = many(0, 7, 0, 512); l.Counts[7] = 512 }),
		with(deployed, func(l *api.Ledger) { l.Sealed, l.Decided = most, most }),
		with(deployed, func(l *api.Ledger) { l.Sealed, l.Decided, l.Batches = most, most-1, []api.Batch{{Epoch: most - 1}} }),
	} {
		wantGood(t, l, true)
	}
}

// spoilt gives ledgers that break one condition each.
func spoilt() []api.Ledger {
	three := ledgerOf(1, "3.0.2 4.0.2", "3.1.2", "", "5.0.0 3.2.2")
	var l []api.Ledger
	for _, change := range []func(*api.Ledger){
		func(l *api.Ledger) { l.Rows[0].Last = -1 },
		func(l *api.Ledger) { l.Rows = append(l.Rows, l.Rows[0]) },
		func(l *api.Ledger) { l.Rows[0], l.Rows[1] = l.Rows[1], l.Rows[0] },
		func(l *api.Ledger) { l.Rows[2].Producer = 64 },
		func(l *api.Ledger) { l.Rows[2].Part = 8 },
		func(l *api.Ledger) { l.Counts[7] = -1 },
		func(l *api.Ledger) { l.Counts[1] = least },
		func(l *api.Ledger) { l.Counts[0] = 0 },
		func(l *api.Ledger) { l.Counts[2] = 3 },
		func(l *api.Ledger) { l.Open = many(0, 0, 0, 513); l.Counts[0] = 600 },
		func(l *api.Ledger) { l.Batches[0].Records = many(0, 0, 0, 513); l.Counts[0] = 600 },
		func(l *api.Ledger) { l.Batches[2].Records = many(0, 0, 0, 513); l.Counts[0] = 600 },
		func(l *api.Ledger) { l.Batches[1].Epoch = 0 },
		func(l *api.Ledger) { l.Batches[1].Epoch = 2 },
		func(l *api.Ledger) { l.Batches[0], l.Batches[1] = l.Batches[1], l.Batches[0] },
		func(l *api.Ledger) { l.Batches = l.Batches[2:] },
		func(l *api.Ledger) { l.Batches = nil },
		func(l *api.Ledger) { l.Batches = l.Batches[:2] },
		func(l *api.Ledger) { l.Batches = l.Batches[:2]; l.Decided = 3 },
		func(l *api.Ledger) { l.Batches = slices.Delete(l.Batches, 1, 2) },
		func(l *api.Ledger) { l.Batches = append(l.Batches, api.Batch{Epoch: 3}) },
		func(l *api.Ledger) { l.Batches = append([]api.Batch{{Epoch: -1}}, l.Batches...) },
		func(l *api.Ledger) { l.Sealed = 2 },
		func(l *api.Ledger) { l.Sealed = 4 },
		func(l *api.Ledger) { l.Sealed, l.Decided = 2, 2 },
		func(l *api.Ledger) { l.Decided = 4 },
		func(l *api.Ledger) { l.Decided = -1 },
		func(l *api.Ledger) { l.Decided = least },
		func(l *api.Ledger) { l.Sealed = least },
		func(l *api.Ledger) { l.Sealed = most },
		func(l *api.Ledger) { l.Sealed, l.Decided, l.Batches = -1, -1, nil },
		func(l *api.Ledger) { l.Sealed, l.Decided, l.Batches = -2, -3, []api.Batch{{Epoch: -3}} },
		func(l *api.Ledger) { l.Keep = -1 },
		func(l *api.Ledger) { l.Keep = 65 },
		func(l *api.Ledger) { l.Keep = most },
		func(l *api.Ledger) { l.Keep = least },
		func(l *api.Ledger) { l.Deployed = false },
		func(l *api.Ledger) { l.Deployed = false; l.Graph = api.Graph{} },
		func(l *api.Ledger) { *l = api.Ledger{Graph: plain()} },
		func(l *api.Ledger) { *l = api.Ledger{Sealed: 1, Decided: 1} },
		func(l *api.Ledger) { *l = api.Ledger{Batches: []api.Batch{{Epoch: -1}}} },
		func(l *api.Ledger) { *l = api.Ledger{Counts: [8]int{-1}} },
	} {
		l = append(l, with(three, change))
	}
	for _, g := range wrongGraphs() {
		l = append(l, with(three, func(l *api.Ledger) { l.Graph = g }), api.Ledger{Deployed: true, Graph: g})
	}
	for _, r := range wrongRecords() {
		l = append(l, with(three, func(l *api.Ledger) { l.Open[1] = r }), with(three, func(l *api.Ledger) { l.Batches[0].Records[1] = r }),
			with(three, func(l *api.Ledger) { l.Batches[2].Records = []api.Record{r} }))
	}
	return l
}

func wrongRecords() []api.Record {
	long := strings.Repeat("k", 33)
	return []api.Record{
		{Producer: -1}, {Producer: 64}, {Producer: most}, {Seq: -1}, {Seq: least},
		{Part: -1}, {Part: 8}, {Part: most}, {Part: least}, {Key: long},
	}
}

// P14.1: ledgers that aren't in form; all the other calls refuse them.
func TestSpoilt(t *testing.T) {
	for _, l := range spoilt() {
		wantGood(t, l, false)
		for _, e := range someEntries() {
			wantApply(t, l, e, api.Ledger{}, false, 3)
		}
		for part := -1; part <= 8; part++ {
			wantFirst(t, l, part, 0)
			for _, from := range []int{-1, 0, 1, most} {
				wantFetch(t, l, part, from, from, nil, 0, 3)
			}
		}
		for epoch := -1; epoch <= 3; epoch++ {
			wantBatch(t, l, epoch, nil, 3)
		}
		if s, e := Encode(l); len(s) != 0 || e != 3 {
			t.Errorf("Encode(%v) = %q, %d", l, s, e)
		}
	}
}

func someEntries() []api.Entry {
	return []api.Entry{
		noop(), record(recordOf(3, 0, 2)), record(recordOf(3, 3, 2)), record(recordOf(9, 0, 0)), record(recordOf(9, 9, 0)),
		sealing(0), sealing(3), sealing(most), deploying(plain()), deploying(joined()), deploying(api.Graph{}),
		deciding(0), deciding(1), deciding(most), keeping(0), keeping(2), keeping(64), keeping(65), keeping(most),
	}
}

// wrongEntries aren't in form.
func wrongEntries() []api.Entry {
	l := []api.Entry{
		{N: 1}, {Rec: recordOf(0, 1, 0)}, {Graph: plain()},
		{Kind: 1, N: 1}, {Kind: 1, Graph: plain()}, {Kind: 2, N: -1}, {Kind: 2, Rec: recordOf(1, 0, 0)}, {Kind: 2, Graph: plain()},
		{Kind: 3, Graph: plain(), N: 1}, {Kind: 3, Graph: plain(), Rec: recordOf(1, 0, 0)},
		{Kind: 3, Graph: api.Graph{Ops: make([]api.Op, 17)}}, {Kind: 3, Graph: api.Graph{Ops: []api.Op{{In: []int{0, 0, 0}}}}},
		{Kind: 4, N: -1}, {Kind: 4, N: least}, {Kind: 4, Rec: recordOf(1, 0, 0)}, {Kind: 4, Graph: plain()},
		{Kind: 5, N: -1}, {Kind: 5, Rec: recordOf(1, 0, 0)}, {Kind: 5, Graph: plain()},
		{Kind: 6}, {Kind: -1}, {Kind: most}, {Kind: least}, {Kind: 7, N: 1}, {Kind: 256 + 5}, {Kind: 1 << 32},
	}
	for _, r := range wrongRecords() {
		l = append(l, record(r))
	}
	return l
}

// P14.1: entries that aren't in form, ahead of every other error.
func TestWrongEntries(t *testing.T) {
	for _, l := range append(someLedgers(), spoilt()...) {
		for _, e := range wrongEntries() {
			wantApply(t, l, e, api.Ledger{}, false, 3)
		}
	}
}

// someLedgers are in form.
func someLedgers() []api.Ledger {
	three := ledgerOf(1, "3.0.2 4.0.2", "3.1.2", "", "5.0.0 3.2.2")
	full := with(ledgerOf(0, ""), func(l *api.Ledger) {
		l.Open = many(3, 2, 0, 512)
		l.Counts[2] = 512
		l.Rows = []api.Row{{Producer: 3, Part: 2, Last: 511}}
	})
	atEnd := with(ledgerOf(0, "3.0.2"), func(l *api.Ledger) { l.Rows[0].Last = most; l.Counts[2] = most; l.Sealed, l.Decided = most, most })
	return []api.Ledger{
		{}, ledgerOf(0, ""), ledgerOf(0, "3.0.2"), three, full, atEnd,
		with(three, func(l *api.Ledger) { l.Keep = 2; l.Graph = joined(); l.Counts = [8]int{9, 8, 7, 6, 5, 4, 3, 2} }),
		{Open: recordsOf("3.0.2 3.1.2"), Counts: [8]int{2: 2}, Rows: []api.Row{{Producer: 3, Part: 2, Last: 1}}, Keep: 64},
	}
}

// P14.1: nothing is done.
func TestNoop(t *testing.T) {
	for _, l := range someLedgers() {
		wantApply(t, l, noop(), l, false, 0)
		wantApply(t, l, api.Entry{Graph: api.Graph{Ops: []api.Op{}}}, l, false, 0)
	}
}

// P14.1: a record is taken: its row, its place, its count.
func TestRecordIsTaken(t *testing.T) {
	l := ledgerOf(0, "3.0.2", "4.0.2 3.1.2")
	r := api.Record{Producer: 3, Seq: 2, Part: 2, Key: strings.Repeat("\x00", 32), Val: math.MaxUint32}
	l = wantDone(t, l, record(r), func(l *api.Ledger) {
		l.Rows[0].Last = 2
		l.Open = append(l.Open, r)
		l.Counts[2] = 4
	})
	r = recordOf(3, 0, 1)
	l = wantDone(t, l, record(r), func(l *api.Ledger) {
		l.Rows = []api.Row{{Producer: 3, Part: 1, Last: 0}, {Producer: 3, Part: 2, Last: 2}, {Producer: 4, Part: 2, Last: 0}}
		l.Open = append(l.Open, r)
		l.Counts[1] = 1
	})
	r = recordOf(63, 0, 7)
	l = wantDone(t, l, record(r), func(l *api.Ledger) {
		l.Rows = append(l.Rows, api.Row{Producer: 63, Part: 7})
		l.Open = append(l.Open, r)
		l.Counts[7] = 1
	})
	wantFetch(t, l, 2, 0, 9, []api.Record{recordOf(3, 0, 2), recordOf(4, 0, 2), recordOf(3, 1, 2), {Producer: 3, Seq: 2, Part: 2, Key: strings.Repeat("\x00", 32), Val: math.MaxUint32}}, 4, 0)
	// Neither a graph nor a seal is asked for.
	first := recordOf(0, 0, 0)
	wantApply(t, api.Ledger{}, record(first), api.Ledger{Rows: []api.Row{{}}, Counts: [8]int{1}, Open: []api.Record{first}}, true, 0)
}

// P14.1: numbers that come again, whatever stands in the record, and those that leave a gap.
func TestAgainAndGap(t *testing.T) {
	l := ledgerOf(0, "3.0.2 3.1.2", "3.2.2")
	for seq := range 3 {
		wantApply(t, l, record(recordOf(3, seq, 2)), l, false, 0)
		wantApply(t, l, record(api.Record{Producer: 3, Seq: seq, Part: 2, Key: "other", Val: 1}), l, false, 0)
		wantRefusedGaps(t, l, 3, seq+4, 2)
	}
	wantRefusedGaps(t, l, 3, most, 2)
	for _, seq := range []int{1, 2, 3, most} {
		wantRefusedGaps(t, l, 3, seq, 1)
		wantRefusedGaps(t, l, 2, seq, 2)
		wantRefusedGaps(t, l, 4, seq, 2)
	}
}

func wantRefusedGaps(t *testing.T, l api.Ledger, producer, seq, part int) {
	t.Helper()
	wantRefused(t, l, record(recordOf(producer, seq, part)), 11)
}

// P14.1: Again and Gap ahead of ErrExhausted ahead of ErrBusy.
func TestRecordErrorsInOrder(t *testing.T) {
	full := func(l *api.Ledger) {
		l.Open = many(9, 0, 0, 512)
		l.Counts[0] = max(l.Counts[0], 512)
	}
	atEnd := func(l *api.Ledger) { l.Counts[2] = most }
	numbered := func(last int) api.Ledger {
		return api.Ledger{Rows: []api.Row{{Producer: 3, Part: 2, Last: last}}, Counts: [8]int{2: 7}}
	}
	for _, l := range []api.Ledger{numbered(6), with(numbered(6), full), with(numbered(6), atEnd), with(with(numbered(6), atEnd), full)} {
		wantApply(t, l, record(recordOf(3, 6, 2)), l, false, 0)
		wantApply(t, l, record(recordOf(3, 0, 2)), l, false, 0)
		wantRefused(t, l, record(recordOf(3, 8, 2)), 11)
		wantRefused(t, l, record(recordOf(4, 1, 2)), 11)
	}
	wantRefused(t, with(numbered(6), atEnd), record(recordOf(3, 7, 2)), 14)
	wantRefused(t, with(numbered(6), full), record(recordOf(3, 7, 2)), 10)
	wantRefused(t, with(with(numbered(6), atEnd), full), record(recordOf(3, 7, 2)), 14)
	wantRefused(t, with(numbered(6), atEnd), record(recordOf(4, 0, 2)), 14)
	for _, l := range []api.Ledger{numbered(most), with(numbered(most), full), with(numbered(most), atEnd)} {
		wantRefused(t, l, record(recordOf(3, most, 2)), 14)
		wantApply(t, l, record(recordOf(3, most-1, 2)), l, false, 0)
	}
	// Another partition's count doesn't matter, and the last number and the last offset can be taken.
	wantDone(t, with(numbered(6), atEnd), record(recordOf(3, 0, 1)), func(l *api.Ledger) {
		l.Rows = []api.Row{{Producer: 3, Part: 1}, {Producer: 3, Part: 2, Last: 6}}
		l.Open = []api.Record{recordOf(3, 0, 1)}
		l.Counts[1] = 1
	})
	wantDone(t, with(numbered(most-1), func(l *api.Ledger) { l.Counts[2] = most - 1 }), record(recordOf(3, most, 2)), func(l *api.Ledger) {
		l.Rows[0].Last = most
		l.Open = []api.Record{recordOf(3, most, 2)}
		l.Counts[2] = most
	})
}

// P14.1: the open epoch has room for 512 records, of all partitions together; a seal makes room.
func TestFullEpoch(t *testing.T) {
	var l api.Ledger
	for i := range 512 {
		r := recordOf(i%3, i/24, i/3%8)
		l = wantDoneRecord(t, l, r)
	}
	next := recordOf(0, 22, 0)
	wantRefused(t, l, record(next), 10)
	wantApply(t, l, record(recordOf(0, 21, 0)), l, false, 0)
	l = run(t, l, deploying(plain()))
	wantRefused(t, l, record(next), 10)
	l = run(t, l, sealing(0), record(next))
	if len(l.Open) != 1 || len(l.Batches) != 1 || len(l.Batches[0].Records) != 512 {
		t.Errorf("%d, %d", len(l.Open), len(l.Batches))
	}
}

func wantDoneRecord(t *testing.T, l api.Ledger, r api.Record) api.Ledger {
	t.Helper()
	want, _, _ := applyByRule(l, record(r))
	if len(want.Open) != len(l.Open)+1 {
		t.Fatalf("%v isn't the next one", r)
	}
	return wantApply(t, l, record(r), want, true, 0)
}

// P14.1: what a seal does, and its errors in their order.
func TestSeal(t *testing.T) {
	l := ledgerOf(0, "3.0.2", "4.0.2 3.1.2")
	l = wantDone(t, l, sealing(1), func(l *api.Ledger) {
		l.Batches = append(l.Batches, api.Batch{Epoch: 1, Records: l.Open})
		l.Open = nil
		l.Sealed = 2
	})
	l = wantDone(t, l, sealing(2), func(l *api.Ledger) {
		l.Batches = append(l.Batches, api.Batch{Epoch: 2})
		l.Sealed = 3
	})
	for _, n := range []int{0, 1, 2, 4, 5, 64, most} {
		wantRefused(t, l, sealing(n), 9)
	}
	for _, n := range []int{0, 1, most} {
		wantRefused(t, api.Ledger{Open: recordsOf("3.0.2"), Counts: [8]int{2: 1}}, sealing(n), 9)
	}
	// The numbers' end.
	atEnd := api.Ledger{Deployed: true, Graph: plain(), Sealed: most, Decided: most}
	wantRefused(t, atEnd, sealing(most), 14)
	wantRefused(t, atEnd, sealing(most-1), 9)
	wantRefused(t, atEnd, sealing(0), 9)
	waiting := with(atEnd, func(l *api.Ledger) {
		l.Decided -= 64
		for i := range 64 {
			l.Batches = append(l.Batches, api.Batch{Epoch: most - 64 + i})
		}
	})
	wantRefused(t, waiting, sealing(most), 14)
	wantRefused(t, waiting, sealing(most-64), 9)
	wantDone(t, api.Ledger{Deployed: true, Graph: plain(), Sealed: most - 1, Decided: most - 1}, sealing(most-1), func(l *api.Ledger) {
		l.Sealed = most
		l.Batches = []api.Batch{{Epoch: most - 1}}
	})
}

// P14.1: sixty-four epochs may wait; what is decided makes room, however many are kept.
func TestWaitingEpochs(t *testing.T) {
	l := run(t, api.Ledger{}, deploying(plain()), keeping(64))
	for n := range 64 {
		l = run(t, l, record(recordOf(1, n/8, n%8)), sealing(n))
	}
	wantRefused(t, l, sealing(64), 10)
	wantRefused(t, l, sealing(65), 9)
	wantRefused(t, l, sealing(63), 9)
	l = run(t, l, deciding(0), sealing(64))
	wantRefused(t, l, sealing(65), 10)
	wantRefused(t, l, sealing(64), 9)
	l = run(t, l, deciding(1), deciding(2), sealing(65), sealing(66))
	wantRefused(t, l, sealing(67), 10)
	if len(l.Batches) != 67 || l.Sealed != 67 || l.Decided != 3 {
		t.Errorf("%d batches, %d, %d", len(l.Batches), l.Sealed, l.Decided)
	}
}

// P14.1: a graph is taken once, if it is right.
func TestDeploy(t *testing.T) {
	taken := api.Ledger{Open: recordsOf("3.0.2"), Counts: [8]int{2: 1}, Rows: []api.Row{{Producer: 3, Part: 2}}, Keep: 5}
	for _, l := range []api.Ledger{{}, taken} {
		for _, g := range wrongGraphs() {
			wantRefused(t, l, deploying(g), 13)
		}
		for _, g := range []api.Graph{plain(), joined()} {
			wantDone(t, l, deploying(g), func(l *api.Ledger) { l.Deployed, l.Graph = true, g })
		}
	}
	for _, l := range []api.Ledger{ledgerOf(0, ""), ledgerOf(1, "3.0.2", "")} {
		for _, g := range append(wrongGraphs(), plain(), joined()) {
			wantRefused(t, l, deploying(g), 9)
		}
	}
}

// P14.1: epochs are decided one by one, when they are sealed.
func TestDecide(t *testing.T) {
	l := ledgerOf(0, "3.0.2", "3.1.2 4.0.0", "", "5.0.0")
	for epoch := range 3 {
		for n := range 6 {
			if n != epoch {
				wantRefused(t, l, deciding(n), 9)
			}
		}
		wantRefused(t, l, deciding(most), 9)
		l = wantDone(t, l, deciding(epoch), func(l *api.Ledger) {
			l.Decided++
			l.Batches = l.Batches[1:]
		})
	}
	for n := range 6 {
		wantRefused(t, l, deciding(n), 9)
	}
	wantRefused(t, api.Ledger{}, deciding(0), 9)
	wantRefused(t, ledgerOf(0, ""), deciding(0), 9)
	atEnd := api.Ledger{Deployed: true, Graph: plain(), Sealed: most, Decided: most}
	wantRefused(t, atEnd, deciding(most), 9)
	wantRefused(t, atEnd, deciding(most-1), 9)
	last := with(atEnd, func(l *api.Ledger) { l.Decided--; l.Batches = []api.Batch{{Epoch: most - 1}} })
	wantDone(t, last, deciding(most-1), func(l *api.Ledger) { l.Decided, l.Batches = most, nil })
}

// epochsOf answers the numbers of the batches.
func epochsOf(l api.Ledger) []int {
	var epochs []int
	for _, b := range l.Batches {
		epochs = append(epochs, b.Epoch)
	}
	return epochs
}

// P14.1: which batches go, for each number of kept epochs, when an epoch is decided.
func TestWhichBatchesGo(t *testing.T) {
	for kept := range 65 {
		l := run(t, api.Ledger{}, keeping(kept), deploying(plain()))
		for n := range 70 {
			l = run(t, l, record(recordOf(1, n, 1)), sealing(n), deciding(n))
			from := max(0, n+1-kept)
			if len(l.Batches) != n+1-from || len(l.Batches) > 0 && l.Batches[0].Epoch != from {
				t.Fatalf("kept %d, %d decided: %v", kept, n+1, epochsOf(l))
			}
			wantFirst(t, l, 1, from)
			wantFirst(t, l, 0, 0)
		}
	}
}

// P14.1: how many are kept: fewer let batches go, more bring none back; what isn't decided stays.
func TestKeep(t *testing.T) {
	l := run(t, api.Ledger{}, keeping(64), deploying(plain()))
	for n := range 70 {
		l = run(t, l, record(recordOf(1, n, 1)), sealing(n))
		if n < 66 {
			l = run(t, l, deciding(n))
		}
	}
	for n := range 65 {
		wantDone(t, l, keeping(n), func(l *api.Ledger) {
			l.Keep = n
			l.Batches = l.Batches[64-n:]
		})
	}
	for _, n := range []int{65, 66, 100, 256, 1 << 32, most} {
		wantRefused(t, l, keeping(n), 1)
	}
	l = run(t, l, keeping(3))
	if !slices.Equal(epochsOf(l), []int{63, 64, 65, 66, 67, 68, 69}) {
		t.Errorf("%v", epochsOf(l))
	}
	for _, n := range []int{3, 4, 64} {
		wantDone(t, l, keeping(n), func(l *api.Ledger) { l.Keep = n })
	}
	l = run(t, l, keeping(64), keeping(0), keeping(0))
	if !slices.Equal(epochsOf(l), []int{66, 67, 68, 69}) || l.Keep != 0 {
		t.Errorf("%v", epochsOf(l))
	}
	for n := range 65 {
		wantDone(t, api.Ledger{}, keeping(n), func(l *api.Ledger) { l.Keep = n })
	}
}

// P14.1: a ledger in form may have batches that aren't kept; they go with the next decision, or number of kept ones, but not ahead of it.
func TestBatchesThatArentKept(t *testing.T) {
	l := ledgerOf(4, "3.0.2", "3.1.2", "3.2.2", "3.3.2", "3.4.2", "")
	l.Keep = 1
	wantApply(t, l, noop(), l, false, 0)
	wantDone(t, l, record(recordOf(3, 5, 2)), func(l *api.Ledger) {
		l.Rows[0].Last, l.Counts[2], l.Open = 5, 6, recordsOf("3.5.2")
	})
	wantDone(t, l, sealing(5), func(l *api.Ledger) { l.Sealed, l.Batches = 6, append(l.Batches, api.Batch{Epoch: 5}) })
	wantDone(t, l, deciding(4), func(l *api.Ledger) { l.Decided, l.Batches = 5, l.Batches[4:] })
	wantDone(t, l, keeping(1), func(l *api.Ledger) { l.Batches = l.Batches[3:] })
	wantDone(t, l, keeping(3), func(l *api.Ledger) { l.Keep, l.Batches = 3, l.Batches[1:] })
	wantDone(t, l, keeping(4), func(l *api.Ledger) { l.Keep = 4 })
	wantRefused(t, l, keeping(65), 1)
	wantRefused(t, l, deciding(3), 9)
	wantFetch(t, l, 2, 0, 9, recordsOf("3.0.2 3.1.2 3.2.2 3.3.2 3.4.2"), 5, 0)
}

// P14.2: offsets, in batches and in the open epoch.
func TestFetchByHand(t *testing.T) {
	l := ledgerOf(1, "3.0.2 4.0.2 9.0.0", "3.1.2", "", "5.0.0 3.2.2 4.1.2")
	l.Counts = [8]int{2, 0, 105, 7}
	wantFirst(t, l, 0, 0)
	wantFirst(t, l, 1, 0)
	wantFirst(t, l, 2, 100)
	wantFirst(t, l, 3, 7)
	wantFetch(t, l, 2, 100, 9, recordsOf("3.0.2 4.0.2 3.1.2 3.2.2 4.1.2"), 105, 0)
	wantFetch(t, l, 2, 100, 5, recordsOf("3.0.2 4.0.2 3.1.2 3.2.2 4.1.2"), 105, 0)
	wantFetch(t, l, 2, 100, 4, recordsOf("3.0.2 4.0.2 3.1.2 3.2.2"), 104, 0)
	wantFetch(t, l, 2, 101, 2, recordsOf("4.0.2 3.1.2"), 103, 0)
	wantFetch(t, l, 2, 103, 1, recordsOf("3.2.2"), 104, 0)
	wantFetch(t, l, 2, 104, most, recordsOf("4.1.2"), 105, 0)
	wantFetch(t, l, 2, 102, 0, nil, 102, 0)
	wantFetch(t, l, 2, 105, 0, nil, 105, 0)
	wantFetch(t, l, 2, 105, 9, nil, 105, 0)
	wantFetch(t, l, 2, 106, 9, nil, 0, 8)
	wantFetch(t, l, 2, 99, 9, nil, 0, 8)
	wantFetch(t, l, 0, 0, 2, recordsOf("9.0.0 5.0.0"), 2, 0)
	wantFetch(t, l, 0, 1, 2, recordsOf("5.0.0"), 2, 0)
	wantFetch(t, l, 1, 0, 2, nil, 0, 0)
	wantFetch(t, l, 1, 1, 2, nil, 0, 8)
	wantFetch(t, l, 3, 7, 2, nil, 7, 0)
	wantFetch(t, l, 3, 6, 2, nil, 0, 8)
	wantFetch(t, l, 3, 8, 2, nil, 0, 8)
	wantFetch(t, l, 3, 0, 0, nil, 0, 8)
}

// P14.2: offsets at the numbers' end.
func TestFetchAtTheEnd(t *testing.T) {
	l := ledgerOf(0, "3.0.2 4.0.2", "3.1.2")
	l.Counts[2], l.Counts[7] = most, most
	wantFirst(t, l, 2, most-3)
	wantFirst(t, l, 7, most)
	wantFetch(t, l, 2, most-3, most, recordsOf("3.0.2 4.0.2 3.1.2"), most, 0)
	wantFetch(t, l, 2, most-1, most, recordsOf("3.1.2"), most, 0)
	wantFetch(t, l, 2, most-2, 1, recordsOf("4.0.2"), most-1, 0)
	wantFetch(t, l, 2, most, most, nil, most, 0)
	wantFetch(t, l, 2, most-4, most, nil, 0, 8)
	wantFetch(t, l, 7, most, most, nil, most, 0)
	wantFetch(t, l, 7, most-1, most, nil, 0, 8)
}

// P14.2: the errors' order: ErrForm, ErrArg, ErrRange.
func TestFetchErrorsInOrder(t *testing.T) {
	l := ledgerOf(1, "3.0.2", "3.1.2")
	wrong := with(l, func(l *api.Ledger) { l.Keep = 65 })
	for _, part := range []int{-1, 8, 9, -8, 256, 256 + 2, 1 << 32, 1<<32 + 2, most, least} {
		wantFirst(t, l, part, 0)
		wantFirst(t, wrong, part, 0)
		for _, from := range []int{0, 1, 2, 3, -1, most, least} {
			for _, count := range []int{0, 1, -1, most, least} {
				wantFetch(t, l, part, from, count, nil, 0, 1)
				wantFetch(t, wrong, part, from, count, nil, 0, 3)
			}
		}
	}
	for part := range 8 {
		for _, from := range []int{0, 1, 2, 3, -1, most, least} {
			for _, count := range []int{-1, -2, -9, least, least + 1} {
				wantFetch(t, l, part, from, count, nil, 0, 1)
				wantFetch(t, wrong, part, from, count, nil, 0, 3)
			}
		}
		for _, from := range []int{-1, -2, 3, 4, most, least} {
			for _, count := range []int{0, 1, most} {
				wantFetch(t, l, part, from, count, nil, 0, 8)
			}
		}
	}
}

// P14.3: the records of each epoch that is there.
func TestBatchByHand(t *testing.T) {
	l := ledgerOf(2, "3.0.2 4.0.2", "3.1.2", "", "3.2.2 5.0.0", "5.1.0")
	wantBatch(t, l, 0, recordsOf("3.0.2 4.0.2"), 0)
	wantBatch(t, l, 1, recordsOf("3.1.2"), 0)
	wantBatch(t, l, 2, nil, 0)
	wantBatch(t, l, 3, recordsOf("3.2.2 5.0.0"), 0)
	for _, epoch := range []int{-1, 4, 5, 64, most, least} {
		wantBatch(t, l, epoch, nil, 7)
	}
	l = run(t, l, keeping(1))
	wantBatch(t, l, 0, nil, 7)
	wantBatch(t, l, 1, recordsOf("3.1.2"), 0)
	l = run(t, l, deciding(2))
	wantBatch(t, l, 1, nil, 7)
	wantBatch(t, l, 2, nil, 0)
	wantBatch(t, l, 3, recordsOf("3.2.2 5.0.0"), 0)
	for _, epoch := range []int{-1, 0, 1, most, least} {
		wantBatch(t, api.Ledger{}, epoch, nil, 7)
	}
	far := api.Ledger{Deployed: true, Graph: plain(), Sealed: most, Decided: most - 1, Batches: []api.Batch{{Epoch: most - 1, Records: recordsOf("3.0.2")}}, Counts: [8]int{2: 1}}
	wantBatch(t, far, most-1, recordsOf("3.0.2"), 0)
	wantBatch(t, far, most, nil, 7)
	wantBatch(t, far, 0, nil, 7)
}
