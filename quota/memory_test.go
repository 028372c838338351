package quota

import (
	"fmt"
	"math/rand"
	"testing"

	"millrace/api"
)

// roomy answers the list with room behind its end, in which something stands.
func roomy[T any](l []T, other T) []T {
	room := append(append([]T(nil), l...), other, other, other)
	return room[: len(l) : len(l)+3]
}

func roomyLedger(l api.Ledger, other api.Record) api.Ledger {
	l.Rows = roomy(l.Rows, api.Row{Producer: other.Producer, Part: other.Part, Last: other.Seq})
	l.Open = roomy(l.Open, other)
	l.Batches = roomy([]api.Batch{{Epoch: 1, Records: roomy(many(3, 1, 0, 3), other)}}, api.Batch{Epoch: 2})
	l.Graph.Ops = roomy([]api.Op{{Kind: 1, In: roomy([]int{5}, 6)}}, api.Op{Kind: 8})
	return l
}

// whole tells all that stands in the lists and in the room behind their ends.
func whole(l api.Ledger, way []api.Record) string {
	all := fmt.Sprint(l, l.Rows[:cap(l.Rows)], l.Open[:cap(l.Open)], way[:cap(way)], l.Batches[:cap(l.Batches)], l.Graph.Ops[:cap(l.Graph.Ops)])
	return all + fmt.Sprint(l.Batches[0].Records[:cap(l.Batches[0].Records)], l.Graph.Ops[0].In[:cap(l.Graph.Ops[0].In)])
}

func spoil(l api.Ledger, way []api.Record) {
	for _, records := range [][]api.Record{l.Open, way} {
		for i := range records[:cap(records)] {
			records[:cap(records)][i] = api.Record{Producer: 3, Seq: 77, Part: 1}
		}
	}
	for i := range l.Rows[:cap(l.Rows)] {
		l.Rows[:cap(l.Rows)][i] = api.Row{Producer: 3, Part: 1, Last: 77}
	}
}

// P15.4: nothing is changed, nor the room behind a list's end, and that room counts nothing.
func TestNothingIsChanged(t *testing.T) {
	r := rand.New(rand.NewSource(4))
	for range 2000 {
		from := pick(r, 0, 5, most-300)
		l := anyLedger(r, from)
		way := anyRecords(r, pick(r, 0, 1, 5, 31, 255), from)
		record := nextByRule(l, way, r.Intn(3), r.Intn(2))
		room := roomyLedger(l, record)
		roomyWay := roomy(way, record)
		before := whole(room, roomyWay)
		wantByRule(t, room, roomyWay, record)
		wantByRule(t, room, roomyWay, anyRecord(r, from))
		if whole(room, roomyWay) != before {
			t.Errorf("%v, %v is changed", l, way)
		}
	}
}

// P15.4: nothing is kept: what was asked before, and is spoilt since, counts nothing.
func TestNothingIsKept(t *testing.T) {
	r := rand.New(rand.NewSource(5))
	for range 2000 {
		l := anyLedger(r, 5)
		way := anyRecords(r, pick(r, 0, 1, 5, 31, 255), 5)
		record := nextByRule(l, way, r.Intn(3), r.Intn(2))
		room := roomyLedger(l, record)
		roomyWay := roomy(way, record)
		of, check := Of(room, record.Producer), Check(room, roomyWay, record)
		spoil(room, roomyWay)
		wantByRule(t, room, roomyWay, record)
		if Of(l, record.Producer) != of || Check(l, way, record) != check {
			t.Errorf("Check(%v, %v, %v) was %d", l, way, record, check)
		}
	}
}

// P15.4: the same call again answers the same, whatever is asked between.
func TestSameAgain(t *testing.T) {
	r := rand.New(rand.NewSource(6))
	type asked struct {
		l      api.Ledger
		way    []api.Record
		record api.Record
		of     int
		check  api.Errno
	}
	var all []asked
	for range 300 {
		l := anyLedger(r, 5)
		way := anyRecords(r, pick(r, 0, 5, 31), 5)
		record := anyRecord(r, 5)
		all = append(all, asked{l, way, record, Of(l, record.Producer), Check(l, way, record)})
	}
	for range 3000 {
		a := all[r.Intn(len(all))]
		wantOf(t, a.l, a.record.Producer, a.of)
		wantCheck(t, a.l, a.way, a.record, a.check)
	}
}
