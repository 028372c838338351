package parts

import (
	"math"
	"math/rand"
	"slices"
	"strings"
	"testing"

	"millrace/api"
	"millrace/entry"
	"millrace/wire"
)

func textsOf(t *testing.T, l api.Ledger) []string {
	t.Helper()
	s, e := Encode(l)
	if e != 0 {
		t.Fatalf("Encode(%v): %d", l, e)
	}
	for i, text := range s {
		if len(text) > 60000 {
			t.Fatalf("text %d of %d has %d bytes", i, len(s), len(text))
		}
	}
	return s
}

// wantThere: the ledger comes back.
func wantThere(t *testing.T, l api.Ledger) []string {
	t.Helper()
	s := textsOf(t, l)
	got, e := Decode(s)
	if e != 0 || !same(got, l) {
		t.Fatalf("%v\ncomes back as %v, %d", l, got, e)
	}
	return s
}

// wantOther: of texts that may be no ledger's.
func wantOther(t *testing.T, s []string) bool {
	t.Helper()
	l, e := Decode(s)
	if e != 0 {
		if e != 3 || !isZero(l) {
			t.Fatalf("Decode(%q) = %v, %d", s, l, e)
		}
		return false
	}
	if !goodByRule(l) || !Good(l) {
		t.Fatalf("Decode(%q) = %v, which isn't in form", s, l)
	}
	// Each ledger has one row of texts.
	if again := textsOf(t, l); !slices.Equal(again, s) {
		t.Fatalf("Decode(%q) is the ledger of %q", s, again)
	}
	return true
}

func wantNone(t *testing.T, s ...string) {
	t.Helper()
	if wantOther(t, s) {
		t.Errorf("Decode(%q) is a ledger", s)
	}
}

// P14.4: ledgers written by hand come back.
func TestTextsByHand(t *testing.T) {
	for _, l := range someLedgers() {
		wantThere(t, l)
	}
	three := ledgerOf(1, "3.0.2 4.0.2", "3.1.2", "", "5.0.0 3.2.2")
	for _, change := range []func(*api.Ledger){
		func(l *api.Ledger) { l.Rows = nil },
		func(l *api.Ledger) { l.Rows[1].Last = most },
		func(l *api.Ledger) { l.Counts = [8]int{1, 2, 9, 4, 5, 6, 7, 8} },
		func(l *api.Ledger) { l.Counts = [8]int{most, most - 1, 9, 0, 0, 0, 0, 1 << 40} },
		func(l *api.Ledger) { l.Open = nil },
		func(l *api.Ledger) { l.Open[0].Key, l.Open[1].Key = "", strings.Repeat("\xff", 32) },
		func(l *api.Ledger) { l.Open[0].Val, l.Batches[0].Records[0].Val = 0, math.MaxUint32 },
		func(l *api.Ledger) { l.Batches[0].Records[0].Seq = most },
		func(l *api.Ledger) { l.Batches = l.Batches[1:] },
		func(l *api.Ledger) { l.Batches[1], l.Batches[2].Records = api.Batch{Epoch: 1}, l.Batches[1].Records },
		func(l *api.Ledger) { l.Decided = 0 },
		func(l *api.Ledger) { l.Decided = 3 },
		func(l *api.Ledger) { l.Keep = 64 },
		func(l *api.Ledger) { l.Graph = joined() },
		func(l *api.Ledger) { l.Graph.Ops[0].Arg = 7 },
		func(l *api.Ledger) {
			l.Sealed, l.Decided = most, most-1
			for i := range l.Batches {
				l.Batches[i].Epoch = most - 3 + i
			}
		},
		func(l *api.Ledger) {
			l.Deployed, l.Graph, l.Sealed, l.Decided, l.Batches = false, api.Graph{}, 0, 0, nil
		},
		func(l *api.Ledger) { l.Sealed, l.Decided, l.Batches = 0, 0, nil },
	} {
		wantThere(t, with(three, change))
	}
}

// fullest is a ledger with the longest lists and numbers.
func fullest(batches int) api.Ledger {
	l := api.Ledger{Deployed: true, Sealed: most, Decided: most - 64, Keep: 64}
	for producer := range 64 {
		for part := range 8 {
			l.Rows = append(l.Rows, api.Row{Producer: producer, Part: part, Last: most})
			l.Counts[part] = most
		}
	}
	for i := range batches {
		l.Batches = append(l.Batches, api.Batch{Epoch: most - batches + i, Records: fullEpoch()})
	}
	l.Open = fullEpoch()
	l.Graph.Ops = []api.Op{{Kind: 1, Arg: -1}}
	for i := range 14 {
		l.Graph.Ops = append(l.Graph.Ops, api.Op{Kind: 7, In: []int{i}, Arg: 1, Num: math.MaxUint32, Rounds: 16, Test: 1, Lim: math.MaxUint32})
	}
	l.Graph.Ops[14] = api.Op{Kind: 5, In: []int{13, 12}, Arg: 3}
	l.Graph.Ops = append(l.Graph.Ops, api.Op{Kind: 8, In: []int{14}})
	return l
}

func fullEpoch() []api.Record {
	var epoch []api.Record
	for i := range 512 {
		epoch = append(epoch, api.Record{Producer: 63, Seq: most - i, Part: 7, Key: strings.Repeat("\xff", 32), Val: math.MaxUint32})
	}
	return epoch
}

// P14.4: each text has at most 60000 bytes, however much the ledger has.
func TestFullestLedger(t *testing.T) {
	wantThere(t, fullest(128))
	l := fullest(64)
	for i := range l.Batches {
		l.Batches[i].Records = nil
	}
	wantThere(t, l)
	for range 5000 {
		l.Batches = append(l.Batches, api.Batch{})
	}
	for i := range l.Batches {
		l.Batches[i].Epoch = most - len(l.Batches) + i
	}
	wantThere(t, l)
}

// P14.4: nil and empty lists are the same; the same ledger has the same texts.
func TestSameTexts(t *testing.T) {
	l := ledgerOf(1, "3.0.2 4.0.2", "")
	l.Batches = append(l.Batches, api.Batch{Epoch: 1})
	l.Sealed = 2
	empty := with(l, func(l *api.Ledger) {
		l.Open = []api.Record{}
		l.Batches[1].Records = make([]api.Record, 0, 5)
		l.Graph.Ops[0].In = []int{}
	})
	if a, b := wantThere(t, l), wantThere(t, empty); !slices.Equal(a, b) {
		t.Errorf("%q, %q", a, b)
	}
	none := api.Ledger{Rows: []api.Row{}, Open: []api.Record{}, Batches: []api.Batch{}, Graph: api.Graph{Ops: []api.Op{}}}
	if a, b := wantThere(t, api.Ledger{}), wantThere(t, none); !slices.Equal(a, b) {
		t.Errorf("%q, %q", a, b)
	}
}

// P14.4: ledgers by chance come back; spoilt ones are refused.
func TestTextsByChance(t *testing.T) {
	r := rand.New(rand.NewSource(144))
	for range 1500 {
		l := anyLedger(r)
		s := wantThere(t, l)
		spoilAny(r, &l)
		if goodByRule(l) {
			again := wantThere(t, l)
			if back, _ := Decode(s); slices.Equal(s, again) != same(back, l) {
				t.Fatalf("%v and %v have the same texts", back, l)
			}
		} else if s, e := Encode(l); e != 3 || len(s) > 0 {
			t.Fatalf("Encode(%v) = %q, %d", l, s, e)
		}
	}
}

// P14.4: texts that are no ledger's.
func TestOtherTexts(t *testing.T) {
	wantNone(t)
	for _, text := range []string{"", "a", "\x00", "\x01\x00", "\x02\x00", strings.Repeat("\x00", 60000), strings.Repeat("\x00", 65537), strings.Repeat("\x01", 1<<20)} {
		for count := range 4 {
			wantNone(t, slices.Repeat([]string{text}, count+1)...)
		}
		for _, l := range []api.Ledger{{}, ledgerOf(1, "3.0.2", "4.0.2", "5.0.2")} {
			s := textsOf(t, l)
			for at := range s {
				spoilt := slices.Clone(s)
				spoilt[at] = text
				wantOther(t, spoilt)
				wantOther(t, slices.Insert(slices.Clone(s), at, text))
			}
			wantOther(t, append(s, text))
		}
	}
	wantNone(t, slices.Repeat([]string{""}, 1<<20)...)
	wantNone(t, append(textsOf(t, api.Ledger{}), slices.Repeat([]string{""}, 1<<16)...)...)
}

// P14.4: texts that are left out, doubled, exchanged, cut or joined.
func TestTextsOutOfOrder(t *testing.T) {
	for _, l := range append(someLedgers()[:4], ledgerOf(1, "3.0.2 4.0.2", "3.1.2", "", "5.0.0 3.2.2")) {
		s := textsOf(t, l)
		for a := range s {
			wantOther(t, slices.Delete(slices.Clone(s), a, a+1))
			wantOther(t, slices.Insert(slices.Clone(s), a, s[a]))
			wantOther(t, s[a:])
			wantOther(t, s[:a])
			for b := range s {
				swapped := slices.Clone(s)
				swapped[a], swapped[b] = s[b], s[a]
				wantOther(t, swapped)
				joined := slices.Clone(s)
				joined[a] += s[b]
				wantOther(t, joined)
			}
			for end := range s[a] {
				cut := slices.Clone(s)
				cut[a] = s[a][:end]
				wantOther(t, cut)
				cut[a] = s[a][end:]
				wantOther(t, cut)
			}
		}
	}
}

// P14.4: each byte spoilt in each way, left out and doubled.
func TestSpoiltBytes(t *testing.T) {
	taken := 0
	l := ledgerOf(1, "3.0.2 4.0.2", "3.1.2", "", "5.0.0 3.2.2")
	l.Graph = joined()
	s := textsOf(t, l)
	for at, text := range s {
		for i := range text {
			spoilt := slices.Clone(s)
			for x := range 256 {
				spoilt[at] = text[:i] + string([]byte{byte(x)}) + text[i+1:]
				if wantOther(t, spoilt) {
					taken++
				}
			}
			spoilt[at] = text[:i] + text[i+1:]
			wantOther(t, spoilt)
			spoilt[at] = text[:i] + text[i:i+1] + text[i:]
			wantOther(t, spoilt)
		}
	}
	if taken == 0 {
		t.Error("nothing that was spoilt is a ledger")
	}
}

// P14.4: many places spoilt, by chance.
func TestSpoiltByChance(t *testing.T) {
	r := rand.New(rand.NewSource(145))
	for range 4000 {
		s := textsOf(t, anyLedger(r))
		for range 1 + r.Intn(4) {
			at := r.Intn(len(s))
			text := []byte(s[at])
			if len(text) == 0 {
				continue
			}
			i := r.Intn(len(text))
			switch r.Intn(4) {
			case 0:
				text[i] ^= 1 << r.Intn(8)
			case 1:
				text[i] = byte(r.Intn(5))
			case 2:
				text = slices.Delete(text, i, i+1)
			case 3:
				text = slices.Insert(text, i, byte(r.Intn(256)))
			}
			s[at] = string(text)
		}
		wantOther(t, s)
	}
}

func message(t *testing.T, items ...api.Item) string {
	t.Helper()
	b, e := wire.Encode(items)
	if e != 0 {
		t.Fatal(e)
	}
	return string(b)
}

func entryText(t *testing.T, e api.Entry) string {
	t.Helper()
	s, err := entry.Encode(e)
	if err != 0 {
		t.Fatal(err)
	}
	return s
}

// exchanged gives the text's items, with other ones in the place of one.
func exchanged(t *testing.T, text string, at int, others ...api.Item) string {
	t.Helper()
	items, e := wire.Decode([]byte(text))
	if e != 0 {
		t.Fatal(e)
	}
	return message(t, slices.Replace(items, at, at+1, others...)...)
}

// P14.4: messages whose items are other ones: of another kind, too few, too many, other entries.
func TestOtherItems(t *testing.T) {
	var others []api.Item
	for _, n := range []int{0, 1, -1, 2, 64, 65, most, least} {
		others = append(others, wire.Int(n))
	}
	for _, s := range []string{"", "a", "\x00\x02"} {
		others = append(others, wire.Text(s), wire.List(wire.Text(s)))
	}
	for _, e := range append(someEntries(), record(api.Record{})) {
		others = append(others, wire.Text(entryText(t, e)))
	}
	others = append(others, wire.List(), wire.List(wire.Int(1)))
	for _, l := range append(someLedgers()[:4], ledgerOf(1, "3.0.2 4.0.2", "3.1.2", "", "5.0.0 3.2.2")) {
		s := textsOf(t, l)
		for at, text := range s {
			items, _ := wire.Decode([]byte(text))
			for i := range items {
				spoilt := slices.Clone(s)
				for _, other := range others {
					spoilt[at] = exchanged(t, text, i, other)
					wantOther(t, spoilt)
					spoilt[at] = exchanged(t, text, i, other, items[i])
					wantOther(t, spoilt)
				}
				spoilt[at] = exchanged(t, text, i)
				wantOther(t, spoilt)
				spoilt[at] = exchanged(t, text, i, items[i], items[i])
				wantOther(t, spoilt)
			}
			for _, other := range others {
				spoilt := slices.Clone(s)
				spoilt[at] = message(t, append(slices.Clone(items), other)...)
				wantOther(t, spoilt)
			}
		}
	}
}
