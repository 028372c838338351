package quota

import (
	"math/rand"
	"testing"

	"millrace/api"
	"millrace/parts"
)

// world is a ledger with records on their way to it: they come to it in the order in which they were handed in.
type world struct {
	t      *testing.T
	ledger api.Ledger
	way    []api.Record
}

func newWorld(t *testing.T) *world {
	w := &world{t: t}
	graph := api.Graph{Ops: []api.Op{{Kind: 1, Arg: -1}, {Kind: 8, In: []int{0}}}}
	w.apply(api.Entry{Kind: 3, Graph: graph})
	return w
}

func (w *world) apply(e api.Entry) {
	w.t.Helper()
	next, changed, err := parts.Apply(w.ledger, e)
	if err != 0 || !changed {
		w.t.Errorf("%v: %v, %d", e, changed, err)
	}
	w.ledger = next
}

// isThere: was the record's number taken, or is it on the way.
func (w *world) isThere(r api.Record) bool {
	if r.Seq <= lastByRule(w.ledger, r.Producer, r.Part) {
		return true
	}
	for _, other := range w.way {
		if other.Producer == r.Producer && other.Part == r.Part && other.Seq == r.Seq {
			return true
		}
	}
	return false
}

// hand hands a record in, if that may be; a record that is there already isn't put on the way again.
func (w *world) hand(r api.Record) api.Errno {
	w.t.Helper()
	there := w.isThere(r)
	err := Check(w.ledger, w.way, r)
	if there && err != 0 {
		w.t.Errorf("%v is there, and is refused: %d", r, err)
	}
	if err == 0 && !there {
		w.way = append(w.way, r)
	}
	w.wantBounds()
	return err
}

// come lets the first records of the way come to the ledger, and seals the epoch.
func (w *world) come(many int, seals bool) {
	w.t.Helper()
	for range min(many, len(w.way)) {
		w.apply(api.Entry{Kind: 1, Rec: w.way[0]})
		w.way = w.way[1:]
	}
	if !seals {
		return
	}
	n := w.ledger.Sealed
	w.apply(api.Entry{Kind: 2, N: n})
	w.apply(api.Entry{Kind: 4, N: n})
}

func (w *world) wantBounds() {
	w.t.Helper()
	for producer := range 64 {
		if n := Of(w.ledger, producer) + ofByRule(w.way, producer); n > 32 {
			w.t.Errorf("producer %d has %d records", producer, n)
		}
	}
	if len(w.way) > 256 || len(w.way)+len(w.ledger.Open) > 512 {
		w.t.Errorf("%d and %d records", len(w.way), len(w.ledger.Open))
	}
}

// P15.3: producers that hand in as much as they may; what Check lets pass is taken, and nobody ever has more than Most records.
func TestStories(t *testing.T) {
	for seed := range 30 {
		r := rand.New(rand.NewSource(int64(seed)))
		w := newWorld(t)
		producers := pick(r, 1, 3, 9, 20, 64)
		fullest := 0
		for range 2500 {
			record := nextByRule(w.ledger, w.way, r.Intn(producers), r.Intn(8))
			if r.Intn(4) == 0 {
				record.Seq = max(0, record.Seq+r.Intn(7)-4)
			}
			w.hand(record)
			fullest = max(fullest, Of(w.ledger, record.Producer)+ofByRule(w.way, record.Producer))
			if r.Intn(20) == 0 {
				w.come(r.Intn(40), r.Intn(20) == 0)
			}
		}
		if producers < 9 && fullest != 32 {
			t.Errorf("the fullest of %d producers had %d records", producers, fullest)
		}
	}
}

// P15.2, P15.3: a producer may hand in 32 records; the next one may come when the epoch is sealed, not when they are taken.
func TestOneProducer(t *testing.T) {
	for onTheWay := range 33 {
		w := newWorld(t)
		for seq := range 32 {
			if err := w.hand(api.Record{Producer: 5, Seq: seq, Part: 2}); err != 0 {
				t.Errorf("%d: %d", seq, err)
			}
		}
		next := api.Record{Producer: 5, Seq: 32, Part: 2}
		refused := w.hand(next)
		w.come(32-onTheWay, false)
		if again := w.hand(next); refused != 10 || again != 10 {
			t.Errorf("%d, and %d with %d on the way", refused, again, onTheWay)
		}
		w.come(0, true)
		want := api.OK
		if onTheWay == 32 {
			want = api.ErrBusy
		}
		if got := w.hand(next); got != want {
			t.Errorf("behind the seal, with %d on the way: %d", onTheWay, got)
		}
	}
}

// P15.2, P15.3: all producers together may have 256 records on the way, and 512 in all.
func TestAllProducers(t *testing.T) {
	w := newWorld(t)
	fill := func() int {
		before := len(w.way)
		for producer := range 64 {
			for seq := range 20 {
				w.hand(api.Record{Producer: producer, Seq: seq, Part: producer % 8})
			}
		}
		return len(w.way) - before
	}
	for step, want := range []int{256, 0, 100, 156, 0} {
		if got := fill(); got != want {
			t.Errorf("step %d: %d records were let pass, want %d", step, got, want)
		}
		w.come([]int{0, 100, 156, 256, 0}[step], false)
	}
	w.come(0, true)
	if got := fill(); got != 256 {
		t.Errorf("behind the seal %d records were let pass", got)
	}
}
