package parts

import (
	"math/rand"
	"slices"
	"testing"

	"millrace/api"
	"millrace/dedup"
	"millrace/graph"
)

// story is all that has ever come to a ledger, from its beginning on; nothing goes.
type story struct {
	taken         []api.Record
	seals         []int // how many were taken at each seal
	decided, keep int
	there         int // the first epoch whose records have to be there
	graph         *api.Graph
}

func (s *story) clone() *story {
	own := *s
	own.taken = slices.Clone(s.taken)
	own.seals = slices.Clone(s.seals)
	return &own
}

// inPart answers all records that a partition has ever had, and how many of them have gone.
func (s *story) inPart(part int) ([]api.Record, int) {
	var all []api.Record
	gone := 0
	for i, r := range s.taken {
		if r.Part != part {
			continue
		}
		all = append(all, r)
		if i < s.begin(s.there) {
			gone++
		}
	}
	return all, gone
}

// begin: how many records were taken ahead of an epoch.
func (s *story) begin(epoch int) int {
	if epoch == 0 {
		return 0
	}
	return s.seals[epoch-1]
}

// next is the number that a producer has to hand in next.
func (s *story) next(producer, part int) int {
	n := 0
	for _, r := range s.taken {
		if r.Producer == producer && r.Part == part {
			n++
		}
	}
	return n
}

func (s *story) apply(e api.Entry) (bool, api.Errno) {
	switch {
	case e.Kind == api.ERecord:
		return s.take(e.Rec)
	case e.Kind == api.ESeal && (s.graph == nil || e.N != len(s.seals)):
		return false, api.ErrState
	case e.Kind == api.ESeal && len(s.seals) == s.decided+64:
		return false, api.ErrBusy
	case e.Kind == api.EDeploy && s.graph != nil:
		return false, api.ErrState
	case e.Kind == api.EDecide && (e.N != s.decided || s.decided == len(s.seals)):
		return false, api.ErrState
	case e.Kind == api.EKeep && e.N > 64:
		return false, api.ErrArg
	}
	switch e.Kind {
	case api.ESeal:
		s.seals = append(s.seals, len(s.taken))
	case api.EDeploy:
		if _, wrong := graph.Check(e.Graph); wrong != api.OK {
			return false, api.ErrGraph
		}
		s.graph = &e.Graph
	case api.EDecide:
		s.decided++
	case api.EKeep:
		s.keep = e.N
	}
	s.there = max(s.there, s.decided-s.keep)
	return e.Kind != api.ENoop, api.OK
}

func (s *story) take(r api.Record) (bool, api.Errno) {
	next := s.next(r.Producer, r.Part)
	switch {
	case r.Seq < next:
		return false, api.OK
	case r.Seq > next:
		return false, api.ErrGap
	case len(s.taken)-s.begin(len(s.seals)) == 512:
		return false, api.ErrBusy
	}
	s.taken = append(s.taken, r)
	return true, api.OK
}

func (s *story) ledger() api.Ledger {
	l := api.Ledger{Sealed: len(s.seals), Decided: s.decided, Keep: s.keep, Deployed: s.graph != nil}
	if s.graph != nil {
		l.Graph = *s.graph
	}
	for producer := range 64 {
		for part := range 8 {
			if n := s.next(producer, part); n > 0 {
				l.Rows = append(l.Rows, api.Row{Producer: producer, Part: part, Last: n - 1})
			}
		}
	}
	for _, r := range s.taken {
		l.Counts[r.Part]++
	}
	for epoch := s.there; epoch < len(s.seals); epoch++ {
		l.Batches = append(l.Batches, api.Batch{Epoch: epoch, Records: s.epoch(epoch)})
	}
	l.Open = s.epoch(len(s.seals))
	return l
}

func (s *story) epoch(n int) []api.Record {
	if n == len(s.seals) {
		return s.taken[s.begin(n):]
	}
	return s.taken[s.begin(n):s.begin(n+1)]
}

// wantStory asks all that can be read.
func (s *story) want(t *testing.T, l api.Ledger) {
	t.Helper()
	wantGood(t, l, true)
	if want := s.ledger(); !same(l, want) {
		t.Fatalf("%v; want %v", l, want)
	}
	for epoch := range len(s.seals) {
		if epoch < s.there {
			wantBatch(t, l, epoch, nil, 7)
		} else {
			wantBatch(t, l, epoch, s.epoch(epoch), 0)
		}
	}
	wantBatch(t, l, len(s.seals), nil, 7)
	for part := range 8 {
		all, gone := s.inPart(part)
		wantFirst(t, l, part, gone)
		s.wantFetches(t, l, part, all, gone)
	}
}

func (s *story) wantFetches(t *testing.T, l api.Ledger, part int, all []api.Record, gone int) {
	t.Helper()
	for from := -1; from <= len(all)+1; from++ {
		for _, count := range []int{0, 1, 2, len(all) - from, most} {
			if from < gone || from > len(all) {
				wantFetch(t, l, part, from, max(0, count), nil, 0, 8)
				continue
			}
			want := all[from:min(len(all), from+min(count, 9999))]
			wantFetch(t, l, part, from, count, want, from+len(want), 0)
		}
	}
}

func fewEntries() []api.Entry {
	other := recordOf(1, 0, 2)
	other.Key = "other"
	return []api.Entry{
		noop(), record(recordOf(1, 0, 2)), record(other), record(recordOf(1, 1, 2)), record(recordOf(2, 0, 2)), record(recordOf(1, 0, 5)),
		sealing(0), sealing(1), sealing(2), deploying(plain()), deploying(api.Graph{}), deciding(0), deciding(1), keeping(0), keeping(1), keeping(65),
	}
}

// P14.1 to P14.3, P14.5: all rows of four entries from the beginning on, and of four more behind some.
func TestAllShortRows(t *testing.T) {
	begin := [][]api.Entry{
		nil,
		{deploying(plain()), record(recordOf(1, 0, 2)), sealing(0), record(recordOf(1, 1, 2)), sealing(1), record(recordOf(2, 0, 2))},
		{deploying(plain()), keeping(1), sealing(0), record(recordOf(1, 0, 5)), sealing(1), deciding(0), record(recordOf(1, 0, 2))},
	}
	for _, entries := range begin {
		var s story
		l := api.Ledger{}
		for _, e := range entries {
			s.apply(e)
			l = run(t, l, e)
		}
		s.want(t, l)
		goOn(t, &s, l, 4)
	}
}

func goOn(t *testing.T, s *story, l api.Ledger, steps int) {
	if steps == 0 {
		return
	}
	for _, e := range fewEntries() {
		s := s.clone()
		changed, err := s.apply(e)
		next := wantApply(t, l, e, s.ledger(), changed, err)
		if changed {
			s.want(t, next)
			goOn(t, s, next, steps-1)
		}
	}
}

// anyNext is an entry that most often can be done.
func anyNext(r *rand.Rand, s *story) api.Entry {
	off := 0
	if r.Intn(6) == 0 {
		off = r.Intn(3) - 1
	}
	producer, part := []int{0, 1, 2, 63}[r.Intn(4)], []int{0, 1, 7}[r.Intn(3)]
	switch n := r.Intn(40); {
	case n == 0:
		return noop()
	case n == 1:
		return keeping([]int{0, 0, 1, 2, 3, 64, 65}[r.Intn(7)])
	case n == 2:
		return deploying([]api.Graph{plain(), {}, joined()}[r.Intn(3)])
	case n < 8:
		return sealing(max(0, len(s.seals)+off))
	case n < 13:
		return deciding(max(0, s.decided+off))
	}
	rec := recordOf(producer, max(0, s.next(producer, part)+off), part)
	rec.Val = r.Uint32()
	return record(rec)
}

// P14.1 to P14.3, P14.5: long rows by chance, against all that has ever come.
func TestLongRows(t *testing.T) {
	r := rand.New(rand.NewSource(140))
	for range 30 {
		var s story
		l := api.Ledger{}
		for step := range 300 {
			e := anyNext(r, &s)
			changed, err := s.apply(e)
			before := l
			l = wantApply(t, before, e, s.ledger(), changed, err)
			if step%20 == 0 {
				s.want(t, l)
			}
			wantFollows(t, before, l)
		}
		s.want(t, l)
	}
}

// wantFollows: what holds from one ledger to the next: no number goes down, no epoch goes that isn't decided, and those that stay are the same.
func wantFollows(t *testing.T, before, behind api.Ledger) {
	t.Helper()
	if behind.Sealed < before.Sealed || behind.Decided < before.Decided {
		t.Fatalf("%v behind %v", behind, before)
	}
	for part, count := range before.Counts {
		if behind.Counts[part] < count || First(behind, part) < First(before, part) {
			t.Fatalf("partition %d: %v behind %v", part, behind, before)
		}
	}
	for _, b := range before.Batches {
		now, err := Batch(behind, b.Epoch)
		if err != api.OK && b.Epoch >= behind.Decided {
			t.Fatalf("%d has gone", b.Epoch)
		}
		if err == api.OK && !slices.Equal(now, b.Records) {
			t.Fatalf("%d: %v, and was %v", b.Epoch, now, b.Records)
		}
	}
	if behind.Sealed == before.Sealed && !slices.Equal(behind.Open[:min(len(behind.Open), len(before.Open))], before.Open) {
		t.Fatalf("open: %v, and was %v", behind.Open, before.Open)
	}
}

// P14.5: whatever comes, each producer's records are in each partition once, in the order of their numbers.
func TestEachRecordOnce(t *testing.T) {
	r := rand.New(rand.NewSource(141))
	for range 20 {
		l := run(t, api.Ledger{}, deploying(plain()), keeping(64))
		for range 800 {
			var e api.Entry
			switch r.Intn(30) {
			case 0:
				e = sealing(l.Sealed)
			case 1:
				e = deciding(l.Decided)
			default:
				producer, part := r.Intn(3), r.Intn(2)
				e = record(recordOf(producer, max(0, dedup.Last(l.Rows, producer, part)+r.Intn(4)-1), part))
			}
			l, _, _ = Apply(l, e)
		}
		if len(l.Open)+len(l.Batches) < 20 || l.Counts[0] < 50 {
			t.Errorf("too little has come: %v", l)
		}
		wantInOrder(t, l)
	}
}

func wantInOrder(t *testing.T, l api.Ledger) {
	t.Helper()
	next := map[[2]int]int{}
	for part := range 8 {
		all, behind, err := Fetch(l, part, 0, most)
		if err != api.OK || behind != l.Counts[part] || behind != len(all) {
			t.Fatalf("partition %d: %d records, %d, %d", part, len(all), behind, err)
		}
		for _, r := range all {
			whose := [2]int{r.Producer, part}
			if r.Part != part || r.Seq != next[whose] {
				t.Fatalf("%v, and the next one is %d", r, next[whose])
			}
			next[whose]++
		}
	}
	for _, row := range l.Rows {
		whose := [2]int{row.Producer, row.Part}
		if next[whose] != row.Last+1 {
			t.Fatalf("%v, and the next one is %d", row, next[whose])
		}
		delete(next, whose)
	}
	if len(next) > 0 {
		t.Fatalf("%v have no row", next)
	}
}
