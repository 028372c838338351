package replog

import (
	"cmp"

	"millrace/api"
)

const (
	patience  = 10 // quiet ticks until a node begins a poll
	loyalty   = 5  // quiet ticks until it favours somebody else
	pollTicks = 3  // ticks until a poll is begun anew; in calm rounds the answers come in the second
)

// Opinions on a node that would like to lead.
const (
	unknown = iota
	favour
	dislike // someone leads, or is being voted for
	rival   // the one that is asked is further, and would like to lead itself
)

// wait is a tick of a node that doesn't lead. It holds a poll ahead of each vote, so that a term that can't be won isn't begun: that would only depose the one who leads. One whom it takes for its leader it forgets first and gives another tick: as long as all know who leads, nobody is about to depose him.
func (n *Node) wait() []api.Mail {
	n.quiet++
	switch {
	case n.quiet > patience && n.favoured():
		if n.leader == nobody {
			return n.campaign()
		}
		n.leader = nobody
	case n.quiet >= patience && (n.quiet-patience)%pollTicks == 0:
		return n.poll()
	}
	return nil
}

func (n *Node) poll() []api.Mail {
	n.opinions = [api.MaxNodes]int{}
	n.opinions[n.id] = favour
	return n.toOthers(func(int) []message { return []message{n.candidacy(aPoll)} })
}

// favoured: does a majority favour it? A rival alone is enough that it doesn't go on: of all that would like to lead only one has none, so votes aren't split.
func (n *Node) favoured() bool {
	favours := 0
	for _, opinion := range n.opinions {
		switch opinion {
		case rival:
			return false
		case favour:
			favours++
		}
	}
	return n.isMajority(favours)
}

func (n *Node) takePoll(from int, x message) []api.Mail {
	return n.reply(from, message{kind: anOpinion, say: n.opinion(from, x)})
}

func (n *Node) opinion(from int, x message) int {
	switch {
	case n.role == leads || n.quiet < loyalty:
		return dislike
	case n.compare(x) > 0 || n.compare(x) == 0 && n.id < from:
		// It has to go on itself then, and not to wait for its own patience.
		n.quiet = max(n.quiet, patience-1)
		return rival
	}
	return favour
}

// campaign begins a term and asks for its votes.
func (n *Node) campaign() []api.Mail {
	if n.term == api.MaxCount || !n.keep(n.term+1, n.id) {
		return nil
	}
	n.role, n.quiet = asks, 0
	n.votes = [api.MaxNodes]bool{}
	n.count(n.id)
	return n.toOthers(func(int) []message { return []message{n.candidacy(aRequest)} })
}

func (n *Node) takeRequest(from int, x message) []api.Mail {
	say := 0
	if x.term == n.term && n.compare(x) <= 0 && (n.vote == nobody || n.vote == from) {
		if n.vote == nobody && !n.keep(n.term, from) {
			return nil
		}
		n.quiet = 0
		say = 1
	}
	return n.reply(from, message{kind: aVote, say: say})
}

func (n *Node) takeVote(from int, x message) {
	if n.role == asks && x.term == n.term && x.say == 1 {
		n.count(from)
	}
}

// count counts a vote, and lets the node lead, if it has a majority then.
func (n *Node) count(from int) {
	n.votes[from] = true
	got := 0
	for _, given := range n.votes {
		if given {
			got++
		}
	}
	if n.isMajority(got) {
		n.lead()
	}
}

// lead begins with an entry of the node's own term: what older terms have left stays only together with one of that.
func (n *Node) lead() {
	for to := range n.nodes {
		n.others[to] = other{next: n.Next()}
	}
	if n.extend(entry{term: n.term}) != api.OK {
		return
	}
	n.role, n.leader = leads, n.id
	n.advance()
}

// enter begins a term that another node has told of.
func (n *Node) enter(term int) bool {
	if !n.keep(term, nobody) {
		return false
	}
	n.role, n.leader = follows, nobody
	return true
}

// candidacy tells how far the node's log is.
func (n *Node) candidacy(kind int) message {
	return message{kind: kind, last: n.termOf(n.Next() - 1), next: n.Next()}
}

// compare holds the node's log against one that a message tells of: the one whose last entry has the greater term is further, or of the same term the longer one. (Of a log that was cut to nothing behind its First the last entry's term isn't known. It stays and every node has it, so no vote is wrong that counts it as 0.)
func (n *Node) compare(x message) int {
	return cmp.Or(cmp.Compare(n.termOf(n.Next()-1), x.last), cmp.Compare(n.Next(), x.next))
}

func (n *Node) isMajority(some int) bool { return some > n.nodes/2 }
