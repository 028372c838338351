package parts

import (
	"fmt"
	"slices"
	"testing"

	"millrace/api"
)

// place is one list of a ledger, with the room behind its end.
type place struct {
	name  string
	text  func() string
	spoil func()
}

func placeOf[T any](name string, l []T, other T) place {
	whole := l[:cap(l)]
	return place{
		name: fmt.Sprintf("%s of %d and %d", name, len(l), cap(l)),
		text: func() string { return fmt.Sprint(whole) },
		spoil: func() {
			for i := range whole {
				whole[i] = other
			}
		},
	}
}

// batchesPlace leaves the records out, which are places of their own.
func batchesPlace(batches []api.Batch) place {
	whole := batches[:cap(batches)]
	return place{
		name: fmt.Sprintf("batches of %d and %d", len(batches), cap(batches)),
		text: func() string {
			s := ""
			for _, b := range whole {
				s += fmt.Sprint(b.Epoch, len(b.Records), " ")
			}
			return s
		},
		spoil: func() {
			for i := range whole {
				whole[i] = api.Batch{Epoch: -77, Records: make([]api.Record, 3)}
			}
		},
	}
}

func opsPlace(ops []api.Op) place {
	whole := ops[:cap(ops)]
	return place{
		name: fmt.Sprintf("operators of %d and %d", len(ops), cap(ops)),
		text: func() string {
			s := ""
			for _, op := range whole {
				s += fmt.Sprint(op.Kind, len(op.In), op.Arg, op.Num, op.Rounds, op.Test, op.Lim, " ")
			}
			return s
		},
		spoil: func() {
			for i := range whole {
				whole[i] = api.Op{Kind: -77, In: make([]int, 5)}
			}
		},
	}
}

func graphPlaces(g api.Graph) []place {
	l := []place{opsPlace(g.Ops)}
	for i, op := range g.Ops {
		l = append(l, placeOf(fmt.Sprintf("inputs %d", i), op.In, -77))
	}
	return l
}

func recordsPlace(name string, l []api.Record) place {
	return placeOf(name, l, api.Record{Producer: -77, Key: "spoilt"})
}

func ledgerPlaces(l api.Ledger) []place {
	places := []place{placeOf("rows", l.Rows, api.Row{Last: -77}), recordsPlace("open", l.Open), batchesPlace(l.Batches)}
	for i, b := range l.Batches {
		places = append(places, recordsPlace(fmt.Sprintf("batch %d", i), b.Records))
	}
	return append(places, graphPlaces(l.Graph)...)
}

func textsOfPlaces(places []place) []string {
	var texts []string
	for _, p := range places {
		texts = append(texts, p.text())
	}
	return texts
}

// roomy answers a list with room behind its end, in which something stands.
func roomy[T any](l []T, other T) []T {
	room := append(slices.Clone(l), other, other, other)
	return room[: len(l) : len(l)+3]
}

func roomyGraph(g api.Graph) api.Graph {
	g.Ops = roomy(g.Ops, api.Op{Kind: 8, In: []int{0}, Arg: 55})
	for i := range g.Ops {
		g.Ops[i].In = roomy(g.Ops[i].In, 55)
	}
	return g
}

func roomyLedger(l api.Ledger) api.Ledger {
	other := api.Record{Producer: 5, Seq: 5, Part: 5, Key: "room", Val: 5}
	l.Rows = roomy(l.Rows, api.Row{Producer: 55, Part: 5, Last: 5})
	l.Open = roomy(l.Open, other)
	l.Batches = roomy(l.Batches, api.Batch{Epoch: 55})
	for i := range l.Batches {
		l.Batches[i].Records = roomy(l.Batches[i].Records, other)
	}
	if l.Deployed {
		l.Graph = roomyGraph(l.Graph)
	}
	return l
}

// call is a call of a ledger: what it is handed, and the places of its answer.
type call struct {
	name string
	make func() (api.Ledger, api.Entry)
	ask  func(l api.Ledger, e api.Entry) []place
}

func applied(l api.Ledger, e api.Entry) []place {
	got, _, _ := Apply(l, e)
	return ledgerPlaces(got)
}

func calls() []call {
	three := with(ledgerOf(1, "3.0.2 4.0.2", "3.1.2", "", "5.0.0 3.2.2"), func(l *api.Ledger) { l.Graph = joined(); l.Keep = 1 })
	open := api.Ledger{Open: recordsOf("3.0.2"), Counts: [8]int{2: 1}, Rows: []api.Row{{Producer: 3, Part: 2}}}
	var all []call
	for _, l := range append(spoilt()[:3], three, open, api.Ledger{}) {
		ledger := func() api.Ledger { return roomyLedger(cloned(l)) }
		for _, e := range append(someEntries(), wrongEntries()[:3]...) {
			all = append(all, call{fmt.Sprintf("Apply of %v", e), func() (api.Ledger, api.Entry) {
				own := e
				own.Graph = roomyGraph(clonedGraph(e.Graph))
				return ledger(), own
			}, applied})
		}
		for part := range 3 {
			for _, count := range []int{0, 1, 2, most} {
				all = append(all, call{fmt.Sprintf("Fetch of %d of partition %d", count, part), func() (api.Ledger, api.Entry) { return ledger(), noop() }, func(l api.Ledger, e api.Entry) []place {
					records, _, _ := Fetch(l, part, 0, count)
					return []place{recordsPlace("records", records)}
				}})
			}
		}
		for epoch := range 4 {
			all = append(all, call{fmt.Sprintf("Batch %d", epoch), func() (api.Ledger, api.Entry) { return ledger(), noop() }, func(l api.Ledger, e api.Entry) []place {
				records, _ := Batch(l, epoch)
				return []place{recordsPlace("records", records)}
			}})
		}
		all = append(all, call{"the others", func() (api.Ledger, api.Entry) { return ledger(), noop() }, func(l api.Ledger, e api.Entry) []place {
			s, _ := Encode(l)
			back, _ := Decode(s)
			if Good(l) {
				First(l, 2)
			}
			return append(ledgerPlaces(back), placeOf("texts", s, "spoilt"))
		}})
	}
	return all
}

// P14.6: nothing that is handed in is changed, nor the room behind a list's end.
func TestNothingIsChanged(t *testing.T) {
	for _, c := range calls() {
		l, e := c.make()
		places := append(ledgerPlaces(l), graphPlaces(e.Graph)...)
		before := textsOfPlaces(places)
		whole := fmt.Sprint(l, e)
		c.ask(l, e)
		for i, text := range textsOfPlaces(places) {
			if text != before[i] {
				t.Errorf("%s: %s was %s, is %s", c.name, places[i].name, before[i], text)
			}
		}
		if now := fmt.Sprint(l, e); now != whole {
			t.Errorf("%s: %s was %s", c.name, now, whole)
		}
	}
}

// P14.6: no two lists of an answer, of what was handed in, and of another answer share any memory, up to the end of their room.
func TestAnswersAreNew(t *testing.T) {
	for _, c := range calls() {
		for at := 0; ; at++ {
			l, e := c.make()
			places := append(ledgerPlaces(l), graphPlaces(e.Graph)...)
			places = append(places, c.ask(l, e)...)
			places = append(places, c.ask(l, e)...)
			if at == len(places) {
				break
			}
			before := textsOfPlaces(places)
			places[at].spoil()
			for i, text := range textsOfPlaces(places) {
				if i != at && text != before[i] {
					t.Errorf("%s: %s is spoilt with %s", c.name, places[i].name, places[at].name)
				}
			}
		}
	}
}

// P14.6: what was handed in isn't kept: when it is spoilt later, the same call of the same ledger answers the same.
func TestNothingIsKept(t *testing.T) {
	for _, c := range calls() {
		l, e := c.make()
		want := textsOfPlaces(c.ask(l, e))
		for _, p := range append(ledgerPlaces(l), graphPlaces(e.Graph)...) {
			p.spoil()
		}
		l, e = c.make()
		if got := textsOfPlaces(c.ask(l, e)); !slices.Equal(got, want) {
			t.Errorf("%s: %v, and was %v", c.name, got, want)
		}
	}
}

// P14.6: texts that are handed in stay, and so does the room behind them.
func TestTextsStay(t *testing.T) {
	s := roomy(textsOf(t, ledgerOf(1, "3.0.2 4.0.2", "3.1.2", "5.0.0")), "room")
	before := fmt.Sprint(s[:cap(s)])
	l, e := Decode(s)
	for _, p := range ledgerPlaces(l) {
		p.spoil()
	}
	if e != 0 || fmt.Sprint(s[:cap(s)]) != before {
		t.Errorf("%d, %q", e, s[:cap(s)])
	}
	again, _ := Decode(s)
	if !same(again, ledgerOf(1, "3.0.2 4.0.2", "3.1.2", "5.0.0")) {
		t.Errorf("%v", again)
	}
}

// wantEnds asks all calls of a ledger that may be anything.
func wantEnds(t *testing.T, l api.Ledger, numbers []int) {
	t.Helper()
	good := goodByRule(l)
	wantGood(t, l, good)
	for _, a := range numbers {
		first, want := First(l, a), 0
		if good && a >= 0 && a < 8 {
			want = l.Counts[a] - len(thereByRule(l, a))
		}
		if first != want {
			t.Errorf("First(%v, %d) = %d", l, a, first)
		}
		for _, b := range numbers {
			for _, c := range numbers {
				if got, behind, err := Fetch(l, a, b, c); err != 0 && (len(got) > 0 || behind != 0) {
					t.Errorf("Fetch(%v, %d, %d, %d) = %v, %d, %d", l, a, b, c, got, behind, err)
				}
			}
			for _, e := range []api.Entry{{Kind: a, N: b}, record(api.Record{Producer: a, Seq: b, Part: a}), record(api.Record{Seq: a, Part: b}), {Kind: 3, Graph: api.Graph{Ops: []api.Op{{Kind: a, In: []int{b}, Arg: a}}}}} {
				got, changed, err := Apply(l, e)
				if err == 3 && (!isZero(got) || changed) || err != 3 && !good || err != 0 && err != 3 && (!same(got, l) || changed) {
					t.Errorf("Apply(%v, %v) = %v, %v, %d", l, e, got, changed, err)
				}
			}
		}
		if got, err := Batch(l, a); err != 0 && len(got) > 0 || err == 3 == good {
			t.Errorf("Batch(%v, %d) = %v, %d", l, a, got, err)
		}
	}
	if s, err := Encode(l); (err == 0) != good || err != 0 && len(s) > 0 {
		t.Errorf("Encode(%v) = %q, %d", l, s, err)
	}
}

// P1: all calls end at all numbers, whatever the ledger.
func TestAllNumbers(t *testing.T) {
	numbers := []int{least, -1 << 32, -1, 0, 1, 2, 3, 5, 7, 8, 63, 64, 65, 512, 1 << 32, most - 1, most}
	for _, l := range append(someLedgers(), spoilt()...) {
		wantEnds(t, l, numbers)
	}
}
