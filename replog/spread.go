package replog

import (
	"slices"

	"millrace/api"
)

const (
	maxEntries = 1000 // entries of a message
	maxRuns    = 500  // runs of a message
)

// other is how far another node is, as its leader knows.
type other struct {
	next   int // the number of the entry that it is sent next
	same   int // so many entries from 0 on are durable there as they are here
	serial int // of the append that it is sent next
	since  int // appends ahead of that one were sent in vain, so their refusals tell nothing
}

// appends is what a leader tells another node at a tick: the entries that it wasn't sent yet, in as many messages as they need. One goes in any case, because by it the other one knows who leads and what stays, and refuses it, if something ahead went lost.
func (n *Node) appends(to int) []message {
	o := &n.others[to]
	o.next = max(o.next, n.First())
	var all []message
	for len(all) == 0 || o.next < n.Next() {
		entries := n.batch(o.next)
		all = append(all, message{
			kind:    anAppend,
			serial:  o.serial,
			at:      o.next,
			last:    n.termOf(o.next - 1),
			commit:  n.commit,
			entries: entries,
		})
		o.next += len(entries)
		o.serial++
	}
	return all
}

// batch answers the entries from a number on that fit into one message: together they have no more bytes than one of them may have.
func (n *Node) batch(from int) []entry {
	var entries []entry
	bytes := 0
	for at := from; at < n.Next() && len(entries) < maxEntries; at++ {
		e := n.entry(at)
		bytes += len(e.data)
		if bytes > maxData {
			break
		}
		entries = append(entries, e)
	}
	return entries
}

func (n *Node) takeAppend(from int, x message) []api.Mail {
	if x.term < n.term {
		return n.reply(from, message{kind: aRefusal, serial: x.serial})
	}
	parted := n.parting(x)
	if n.role == leads || parted < len(x.entries) && x.at+parted < n.commit {
		return nil // no node of that term has sent it
	}
	n.role, n.leader, n.quiet = follows, from, 0
	if !n.fits(x) {
		return n.reply(from, n.refusal(x))
	}
	if n.adopt(x.at+parted, x.entries[parted:]) != api.OK {
		return nil
	}
	same := max(x.at+len(x.entries), n.First())
	n.commit = max(n.commit, min(x.commit, same))
	return n.reply(from, message{kind: anAck, at: same})
}

// fits: do a message's entries come behind one that is the same here and there? What lies ahead of First is; and where the leader has nothing ahead (its term is told as 0), what lies ahead of that is.
func (n *Node) fits(x message) bool {
	switch {
	case x.at > n.Next():
		return false
	case x.at <= n.First() || x.last == 0:
		return true
	}
	return n.termOf(x.at-1) == x.last
}

// parting answers how many of a message's entries the log has already.
func (n *Node) parting(x message) int {
	parted := 0
search:
	for i, e := range x.entries {
		at := x.at + i
		switch {
		case at < n.First():
			// It went because it stays and every node has it.
		case n.termOf(at) != e.term:
			break search
		}
		parted++
	}
	return parted
}

// adopt takes a leader's entries from a number on in the place of its own, if there are any.
func (n *Node) adopt(at int, entries []entry) api.Errno {
	if len(entries) > 0 {
		if e := n.cutTail(at); e != api.OK {
			return e
		}
	}
	return n.extend(entries...)
}

// refusal tells the leader what there is ahead of entries that don't fit: the last runs of terms there.
func (n *Node) refusal(x message) message {
	answer := message{kind: aRefusal, serial: x.serial, at: min(x.at, n.Next())}
	at := answer.at
	for at > n.First() && len(answer.runs) < maxRuns {
		term := n.termOf(at - 1)
		begin, _ := slices.BinarySearch(n.terms, term)
		at = n.First() + begin
		answer.runs = append(answer.runs, run{at, term})
	}
	return answer
}

func (n *Node) takeAck(from int, x message) {
	if n.role != leads || x.term < n.term || x.at > n.Next() {
		return
	}
	n.others[from].same = max(n.others[from].same, x.at)
	n.advance()
}

func (n *Node) takeRefusal(from int, x message) {
	o := &n.others[from]
	if n.role != leads || x.term < n.term || x.serial < o.since {
		return
	}
	o.next = max(n.alike(x), o.same)
	o.since = o.serial
}

// alike answers the place behind the last entry that is the same here and there, as far as a refusal's runs tell, which go down; else the place where they end. Terms never fall, so what is ahead of a smaller one isn't of that run's.
func (n *Node) alike(x message) int {
	at := min(x.at, n.Next())
search:
	for _, r := range x.runs {
		for ; at > r.start; at-- {
			switch mine := n.termOf(at - 1); {
			case mine == r.term:
				return at
			case mine < r.term:
				at = r.start
				continue search
			}
		}
	}
	return at
}

// advance: what a majority has durable stays, if the last of it is of the leader's own term.
func (n *Node) advance() {
	var have []int
	for i, o := range n.others[:n.nodes] {
		if i == n.id {
			o.same = n.Next()
		}
		have = append(have, o.same)
	}
	slices.Sort(have)
	most := have[(n.nodes-1)/2]
	if n.termOf(most-1) == n.term {
		n.commit = most
	}
}
