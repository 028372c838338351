package replog

import (
	"slices"

	"millrace/api"
	"millrace/frame"
	"millrace/wire"
)

// The kinds of messages.
const (
	aPoll     = iota // would it be voted for? (last, next)
	anOpinion        // on that (say)
	aRequest         // for a vote (last, next)
	aVote            // given or not (say)
	anAppend         // entries (serial, at, last, commit)
	anAck            // of entries (at)
	aRefusal         // of entries that don't fit behind the log (serial, at, runs)
)

// headItems are those that every message begins with: its kind and term.
const headItems = 2

// message is what a node says in its term. Numbers that its kind doesn't name are zero.
type message struct {
	kind, term int
	last       int // the term of the last entry, or of the one ahead of an append's
	next       int // the number behind the last entry
	say        int // an opinion, or 1 for a vote
	serial     int // an append's, or that of the one that is refused
	at         int // the number of an append's first entry; how many entries are the same here and there; the number behind a refusal's runs
	commit     int
	entries    []entry
	runs       []run
}

// run is entries of one term in a row, that of the number start being the first.
type run struct {
	start, term int
}

// numbers are those that a message's kind names, in the order in which they are written.
func (x *message) numbers() []*int {
	switch x.kind {
	case aPoll, aRequest:
		return []*int{&x.last, &x.next}
	case anOpinion, aVote:
		return []*int{&x.say}
	case anAppend:
		return []*int{&x.serial, &x.at, &x.last, &x.commit}
	case anAck:
		return []*int{&x.at}
	case aRefusal:
		return []*int{&x.serial, &x.at}
	}
	return nil
}

// write answers a message as one frame. None is ever too long: entries and runs are sent so many at a time.
func (x message) write() []byte {
	items := []api.Item{wire.Int(x.kind), wire.Int(x.term)}
	for _, number := range x.numbers() {
		items = append(items, wire.Int(*number))
	}
	for _, e := range x.entries {
		items = append(items, e.items()...)
	}
	for _, r := range x.runs {
		items = append(items, wire.Int(r.start), wire.Int(r.term))
	}
	payload, _ := wire.Encode(items)
	b, _ := frame.Put(payload)
	return b
}

// read answers the message that bytes are, and whether they are one.
func read(b []byte) (message, bool) {
	payload, behind, e := frame.Next(b, 0)
	if e != api.OK || behind != len(b) {
		return message{}, false
	}
	items, e := wire.Decode(payload)
	if e != api.OK || len(items) < headItems || !wholes(items[:headItems]) {
		return message{}, false
	}
	x := message{kind: items[0].N, term: items[1].N}
	rest := items[headItems:]
	numbers := x.numbers()
	if len(numbers) == 0 || len(rest) < len(numbers) || !wholes(rest[:len(numbers)]) {
		return message{}, false
	}
	for i, number := range numbers {
		*number = rest[i].N
	}
	return x, x.readPairs(rest[len(numbers):]) && x.inForm()
}

// readPairs takes the entries of an append, the runs of a refusal; there are none of others.
func (x *message) readPairs(items []api.Item) bool {
	for pair := range slices.Chunk(items, 2) {
		e, ok := entryOf(pair)
		switch {
		case x.kind == anAppend && ok:
			x.entries = append(x.entries, e)
		case x.kind == aRefusal && len(pair) == 2 && wholes(pair):
			x.runs = append(x.runs, run{pair[0].N, pair[1].N})
		default:
			return false
		}
	}
	return true
}

// inForm: can a node have said it? What it says of logs is looked at where it is held against one.
func (x *message) inForm() bool {
	switch x.kind {
	case anOpinion:
		return x.say >= favour && x.say <= rival
	case aVote:
		return x.say <= 1
	}
	last := x.last
	for _, e := range x.entries {
		if e.term < last {
			return false
		}
		last = e.term
	}
	return last <= x.term && x.at <= api.MaxCount-len(x.entries)
}

// wholes: are all items ints that aren't below 0?
func wholes(items []api.Item) bool {
	return !slices.ContainsFunc(items, func(it api.Item) bool { return it.Kind != api.IInt || it.N < 0 })
}

// reply answers a message of the node's term to one other node.
func (n *Node) reply(to int, x message) []api.Mail {
	return n.mails(nil, to, x)
}

// toOthers answers what is written for each other node.
func (n *Node) toOthers(write func(to int) []message) []api.Mail {
	var all []api.Mail
	for to := range n.nodes {
		if to != n.id {
			all = n.mails(all, to, write(to)...)
		}
	}
	return all
}

func (n *Node) mails(all []api.Mail, to int, messages ...message) []api.Mail {
	for _, x := range messages {
		x.term = n.term
		all = append(all, api.Mail{From: n.id, To: to, Data: x.write()})
	}
	return all
}
