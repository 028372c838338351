package replog

import (
	"millrace/api"
	"millrace/disk"
	"millrace/seglog"
	"millrace/slot"
	"millrace/wire"
)

// entry is what the log holds under a number.
type entry struct {
	term int
	data string
}

// items are an entry's: alone on the disk, behind others in a message.
func (e entry) items() []api.Item {
	return []api.Item{wire.Int(e.term), wire.Text(e.data)}
}

func entryOf(items []api.Item) (entry, bool) {
	if len(items) != 2 || items[0].Kind != api.IInt || items[1].Kind != api.IText {
		return entry{}, false
	}
	e := entry{items[0].N, items[1].S}
	return e, e.term > 0 && len(e.data) <= maxData
}

// open reads all that the disk has ahead of the first repair: a disk that holds what no node has written stays as it is, and is told even if it refuses a repair.
func (n *Node) open(d *disk.Disk) api.Errno {
	s, e := slot.Open(d, slotName)
	if e != api.OK {
		return e
	}
	copied := d.Copy()
	copied.Fail(false)
	l, e := seglog.Open(copied, logName, room)
	if e != api.OK {
		return e
	}
	if !n.recall(s.Get()) || !n.readTerms(l) {
		return api.ErrForm
	}
	n.slot = s
	n.log, e = seglog.Open(d, logName, room)
	return e
}

// recall takes the term and the vote from the slot's value.
func (n *Node) recall(value string, version int) bool {
	if version == 0 {
		return true
	}
	items, _ := wire.Decode([]byte(value))
	if len(items) != 2 || items[0].Kind != api.IInt || items[1].Kind != api.IInt {
		return false
	}
	n.term, n.vote = items[0].N, items[1].N
	return n.term > 0 && n.vote >= nobody && n.vote < api.MaxNodes
}

// readTerms takes the terms from a log. They never fall, none is above the node's own, which was stored ahead, and each begins with the entry that its leader made by itself.
func (n *Node) readTerms(l *seglog.Log) bool {
	first, last := l.First(), 0
	for at, b := range l.All(first) {
		items, _ := wire.Decode(b)
		e, ok := entryOf(items)
		begins := e.term > last && (at == 0 || at > first)
		if !ok || e.term < last || e.term > n.term || begins && e.data != "" {
			return false
		}
		n.terms = append(n.terms, e.term)
		last = e.term
	}
	return first == 0 || n.term > 0
}

// keep stores a term and a vote. That is durable ahead of all that the node says or does in that term.
func (n *Node) keep(term, vote int) bool {
	b, _ := wire.Encode([]api.Item{wire.Int(term), wire.Int(vote)})
	if e := n.slot.Put(string(b)); e != api.OK {
		n.breaks(e)
		return false
	}
	n.term, n.vote = term, vote
	return true
}

// extend puts entries behind the log, which is durable then.
func (n *Node) extend(entries ...entry) api.Errno {
	for _, x := range entries {
		b, _ := wire.Encode(x.items())
		if _, e := n.log.Append(b); e != api.OK {
			return n.breaks(e)
		}
		n.terms = append(n.terms, x.term)
		n.unsynced = true
	}
	return n.settle()
}

// settle makes the log durable: it has to be so ahead of all that is said of it, by the node itself too when it counts. A log that was opened may have entries that weren't.
func (n *Node) settle() api.Errno {
	if !n.unsynced {
		return api.OK
	}
	if e := n.log.Sync(); e != api.OK {
		return n.breaks(e)
	}
	n.unsynced = false
	return api.OK
}

// cutTail takes the entries from a number on away.
func (n *Node) cutTail(at int) api.Errno {
	if e := n.log.CutTail(at); e != api.OK {
		return n.breaks(e)
	}
	n.terms = n.terms[:at-n.First()]
	return api.OK
}

// breaks: the disk has refused something, so the node does nothing any more.
func (n *Node) breaks(e api.Errno) api.Errno {
	n.broken, n.role, n.leader = true, follows, nobody
	return e
}

// entry reads one that the log has.
func (n *Node) entry(at int) entry {
	b, _ := n.log.Read(at)
	items, _ := wire.Decode(b)
	e, _ := entryOf(items)
	return e
}

// termOf is the term of an entry: 0, if the log doesn't have it.
func (n *Node) termOf(at int) int {
	if at < n.First() || at >= n.Next() {
		return 0
	}
	return n.terms[at-n.First()]
}
