package parts

import (
	"slices"

	"millrace/api"
	"millrace/entry"
	"millrace/wire"
)

// The first text is the head: the graph as the text of the entry that deploys it (of none the one that does nothing), and numbers. Behind it come texts of records, one for each batch, and one for the open epoch. The batches' epochs follow from how many were sealed.
const (
	headNumbers  = 3 // Sealed, Decided, Keep
	fixedNumbers = headNumbers + api.MaxParts
	rowNumbers   = 3 // Producer, Part, Last
)

// Encode: the ledger as texts.
func Encode(l api.Ledger) ([]string, api.Errno) {
	if !Good(l) {
		return nil, api.ErrForm
	}
	texts := []string{text(headItems(l))}
	for epoch := range epochs(l) {
		texts = append(texts, text(recordItems(epoch)))
	}
	return texts, api.OK
}

// Decode: the ledger of texts.
func Decode(s []string) (api.Ledger, api.Errno) {
	l, right := read(s)
	if !right || !Good(l) {
		return api.Ledger{}, api.ErrForm
	}
	return l, api.OK
}

// text needs not ask for an error: what the ledger's bounds allow is far less than a message may have.
func text(items []api.Item) string {
	b, _ := wire.Encode(items)
	return string(b)
}

func entryItem(e api.Entry) api.Item {
	s, _ := entry.Encode(e)
	return wire.Text(s)
}

func headItems(l api.Ledger) []api.Item {
	deployed := api.Entry{Kind: api.ENoop}
	if l.Deployed {
		deployed = api.Entry{Kind: api.EDeploy, Graph: l.Graph}
	}
	items := []api.Item{entryItem(deployed), wire.Int(l.Sealed), wire.Int(l.Decided), wire.Int(l.Keep)}
	for _, count := range l.Counts {
		items = append(items, wire.Int(count))
	}
	for _, row := range l.Rows {
		items = append(items, wire.Int(row.Producer), wire.Int(row.Part), wire.Int(row.Last))
	}
	return items
}

func recordItems(epoch []api.Record) []api.Item {
	var items []api.Item
	for _, r := range epoch {
		items = append(items, entryItem(recordEntry(r)))
	}
	return items
}

// read answers the ledger of texts that have the shape of one; it need not be in form.
func read(s []string) (api.Ledger, bool) {
	if len(s) < 2 {
		return api.Ledger{}, false
	}
	l, right := readHead(s[0])
	if !right {
		return api.Ledger{}, false
	}
	open := len(s) - 1
	for _, batch := range s[1:open] {
		epoch, right := readRecords(batch)
		if !right {
			return api.Ledger{}, false
		}
		l.Batches = append(l.Batches, api.Batch{Records: epoch})
	}
	from := firstEpoch(l)
	for i := range l.Batches {
		l.Batches[i].Epoch = from + i
	}
	l.Open, right = readRecords(s[open])
	return l, right
}

func readHead(s string) (api.Ledger, bool) {
	items, err := wire.Decode([]byte(s))
	if err != api.OK || len(items) == 0 {
		return api.Ledger{}, false
	}
	deployed, right := readEntry(items[0])
	numbers, areInts := readNumbers(items[1:])
	if !right || !areInts || deployed.Kind != api.ENoop && deployed.Kind != api.EDeploy {
		return api.Ledger{}, false
	}
	if len(numbers) < fixedNumbers || (len(numbers)-fixedNumbers)%rowNumbers != 0 {
		return api.Ledger{}, false
	}
	l := api.Ledger{Deployed: deployed.Kind == api.EDeploy, Graph: deployed.Graph}
	l.Sealed, l.Decided, l.Keep = numbers[0], numbers[1], numbers[2]
	copy(l.Counts[:], numbers[headNumbers:])
	for row := range slices.Chunk(numbers[fixedNumbers:], rowNumbers) {
		l.Rows = append(l.Rows, api.Row{Producer: row[0], Part: row[1], Last: row[2]})
	}
	return l, true
}

func readNumbers(items []api.Item) ([]int, bool) {
	var numbers []int
	for _, it := range items {
		if it.Kind != api.IInt {
			return nil, false
		}
		numbers = append(numbers, it.N)
	}
	return numbers, true
}

func readRecords(s string) ([]api.Record, bool) {
	items, err := wire.Decode([]byte(s))
	if err != api.OK {
		return nil, false
	}
	var epoch []api.Record
	for _, it := range items {
		e, right := readEntry(it)
		if !right || e.Kind != api.ERecord {
			return nil, false
		}
		epoch = append(epoch, e.Rec)
	}
	return epoch, true
}

func readEntry(it api.Item) (api.Entry, bool) {
	e, err := entry.Decode(it.S)
	return e, it.Kind == api.IText && err == api.OK
}
