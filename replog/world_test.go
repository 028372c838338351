package replog

import (
	"fmt"
	"math/rand"
	"slices"
	"testing"

	"millrace/api"
	"millrace/disk"
	"millrace/frame"
)

const bigRoom = 1 << 30

// world is nodes with their disks, messages on their way, and what was ever seen of them: each step is held against that.
type world struct {
	t        testing.TB
	n        int
	rng      *rand.Rand
	disks    []*disk.Disk
	nodes    []*Node // nil: down
	post     []api.Mail
	split    []int           // a node's side; messages go between those of one side alone
	leaders  map[int]int     // by term
	terms    []int           // the greatest that each node had
	made     map[place]kept  // entries by number and term
	stay     map[int]kept    // entries below somebody's Commit
	proposed map[string]bool // all that was ever handed to Propose
	durable  []int           // the greatest Commit that each node had
	commits  []int           // what each node had since it was opened
	seen     []int           // the Next up to which each node's log was looked at
	looks    int
	handed   int
}

type place struct{ at, term int }

// kept is an entry and the term of the one ahead of it (0: not known).
type kept struct {
	term, ahead int
	data        string
}

func newWorld(t testing.TB, n int, seed int64) *world {
	w := &world{
		t: t, n: n, rng: rand.New(rand.NewSource(seed)),
		nodes: make([]*Node, n), split: make([]int, n), terms: make([]int, n), durable: make([]int, n), commits: make([]int, n), seen: make([]int, n),
		leaders: map[int]int{}, made: map[place]kept{}, stay: map[int]kept{}, proposed: map[string]bool{"": true},
	}
	for i := range n {
		d, e := disk.New(bigRoom)
		if e != api.OK {
			t.Fatal(e)
		}
		w.disks = append(w.disks, d)
		w.open(i)
	}
	return w
}

// open opens a node, whether it was up or not.
func (w *world) open(i int) api.Errno {
	w.t.Helper()
	x, e := Open(w.disks[i], i, w.n)
	if e != api.OK {
		w.nodes[i] = nil
		return e
	}
	w.nodes[i] = x
	if x.Commit() != x.First() || x.Leads() || x.Leader() != -1 || x.Broken() {
		w.t.Fatalf("node %d as it was opened: Commit %d, First %d, Leads %v, Leader %d, Broken %v", i, x.Commit(), x.First(), x.Leads(), x.Leader(), x.Broken())
	}
	w.commits[i], w.seen[i] = x.Commit(), 0
	w.look(i)
	return api.OK
}

func (w *world) crash(i int, picks []int) {
	w.disks[i].Crash(picks)
	w.nodes[i] = nil
}

// send puts what a node sends on its way, but what goes to another side.
func (w *world) send(from int, mails []api.Mail) {
	w.t.Helper()
	for _, m := range mails {
		payload, behind, e := frame.Next(m.Data, 0)
		if e != api.OK || behind != len(m.Data) || len(payload) > 60000 || m.From != from || m.To == from || m.To < 0 || m.To >= w.n {
			w.t.Fatalf("node %d sends from %d to %d a frame of %d bytes, error %d", from, m.From, m.To, len(m.Data), e)
		}
		if w.split[from] == w.split[m.To] {
			w.post = append(w.post, m)
		}
	}
}

func (w *world) tick(i int) {
	w.t.Helper()
	if x := w.nodes[i]; x != nil {
		w.send(i, x.Tick())
		w.look(i)
	}
}

func (w *world) receive(m api.Mail) {
	w.t.Helper()
	x := w.nodes[m.To]
	if x == nil {
		return
	}
	data := slices.Clone(m.Data)
	answers := x.Receive(m)
	if !slices.Equal(data, m.Data) {
		w.t.Fatal("Receive changes the message")
	}
	clear(m.Data) // it isn't kept
	w.send(m.To, answers)
	w.look(m.To)
}

func (w *world) take(k int) api.Mail {
	m := w.post[k]
	w.post = slices.Delete(w.post, k, k+1)
	return m
}

func (w *world) deliver(k int) { w.t.Helper(); w.receive(w.take(k)) }

func (w *world) double(k int) {
	m := w.post[k]
	m.Data = slices.Clone(m.Data)
	w.post = append(w.post, m)
}

// spoil turns bits of a byte, so that the message is no frame any more.
func (w *world) spoil(k int) {
	w.post[k].Data[w.rng.Intn(len(w.post[k].Data))] ^= byte(1 + w.rng.Intn(255))
}

func (w *world) text() string {
	w.handed++
	return fmt.Sprintf("%d", w.handed)
}

func (w *world) propose(i int, data string) (int, api.Errno) {
	w.t.Helper()
	x := w.nodes[i]
	if x == nil {
		return 0, api.ErrState
	}
	next, leads, broken := x.Next(), x.Leads(), x.Broken()
	w.proposed[data] = true
	at, e := x.Propose(data)
	switch {
	case broken && e != api.ErrState, !broken && !leads && e != api.ErrLeader, leads && (e == api.ErrState || e == api.ErrLeader):
		w.t.Fatalf("node %d (leads %v, broken %v): Propose: %d", i, leads, broken, e)
	case e == api.OK && (at != next || x.Next() != next+1):
		w.t.Fatalf("node %d with Next %d: Propose: %d, and then Next %d", i, next, at, x.Next())
	case e != api.OK && (at != 0 || x.Next() != next):
		w.t.Fatalf("node %d with Next %d: Propose: %d, error %d, and then Next %d", i, next, at, e, x.Next())
	case e == api.OK && w.n == 1 && x.Commit() != x.Next():
		w.t.Fatalf("one node: behind Propose Commit is %d, Next %d", x.Commit(), x.Next())
	}
	if e == api.OK {
		if data1, term, e := x.Entry(at); data1 != data || term != x.Term() || e != api.OK {
			w.t.Fatalf("Propose(%q) in term %d: the entry is %q, %d, %d", data, x.Term(), data1, term, e)
		}
	}
	w.look(i)
	return at, e
}

// drop drops what may be dropped: what all nodes have durable.
func (w *world) drop(i, to int) api.Errno {
	w.t.Helper()
	x := w.nodes[i]
	if x == nil {
		return api.ErrState
	}
	first, commit, broken := x.First(), x.Commit(), x.Broken()
	e := x.Drop(min(to, slices.Min(w.durable)))
	if e == api.OK && (x.First() < first || x.First() > max(first, to)) || x.Commit() != commit || broken && e != api.ErrState {
		w.t.Fatalf("Drop(%d): %d; First %d, %d; Commit %d, %d", to, e, first, x.First(), commit, x.Commit())
	}
	w.look(i)
	return e
}

// look holds a node against what was seen so far (P8.1, P8.4, P8.5, P8.6).
func (w *world) look(i int) {
	w.t.Helper()
	x := w.nodes[i]
	if x.Term() < w.terms[i] {
		w.t.Fatalf("node %d: term %d behind %d", i, x.Term(), w.terms[i])
	}
	w.terms[i] = x.Term()
	if x.Leads() {
		if other, ok := w.leaders[x.Term()]; ok && other != i {
			w.t.Fatalf("nodes %d and %d lead in term %d", other, i, x.Term())
		}
		w.leaders[x.Term()] = i
		if x.Leader() != i || x.Broken() {
			w.t.Fatalf("node %d leads: Leader %d, Broken %v", i, x.Leader(), x.Broken())
		}
	}
	if x.Commit() < x.First() || x.Commit() > x.Next() || x.Commit() < w.commits[i] {
		w.t.Fatalf("node %d: First %d, Commit %d behind %d, Next %d", i, x.First(), x.Commit(), w.commits[i], x.Next())
	}
	ahead, from := 0, x.First()
	w.looks++
	if w.looks%30 > 0 { // most times only what may have come or gone; all of it now and then
		from = max(from, min(w.commits[i], w.seen[i]))
		_, ahead, _ = x.Entry(from - 1)
	}
	w.commits[i], w.seen[i] = x.Commit(), x.Next()
	w.durable[i] = max(w.durable[i], x.Commit())
	for at := from; at < x.Next(); at++ {
		data, term, e := x.Entry(at)
		if e != api.OK || term < 1 || term > x.Term() || term < ahead {
			w.t.Fatalf("node %d in term %d: entry %d: %q, %d, %d behind one of term %d", i, x.Term(), at, data, term, e, ahead)
		}
		w.lookAt(i, at, kept{term, ahead, data}, at < x.Commit())
		ahead = term
	}
}

// lookAt: entries of one number and term are the same, and have the same ahead of them; what is below a Commit stays.
func (w *world) lookAt(i, at int, x kept, stays bool) {
	w.t.Helper()
	old, ok := w.made[place{at, x.term}]
	if ok && (old.data != x.data || old.ahead != 0 && x.ahead != 0 && old.ahead != x.ahead) {
		w.t.Fatalf("node %d: entry %d is %v, elsewhere %v", i, at, x, old)
	}
	if !ok && !w.proposed[x.data] {
		w.t.Fatalf("node %d: nobody has proposed entry %d: %q", i, at, x.data)
	}
	if !ok || old.ahead == 0 {
		w.made[place{at, x.term}] = x
	}
	if !stays {
		return
	}
	old, ok = w.stay[at]
	if ok && (old.data != x.data || old.term != x.term) {
		w.t.Fatalf("node %d: entry %d below Commit is %v, elsewhere %v", i, at, x, old)
	}
	w.stay[at] = x
}

// calm is a calm round.
func (w *world) calm() {
	w.t.Helper()
	mails := w.post
	w.post = nil
	for _, m := range mails {
		w.receive(m)
	}
	for i := range w.n {
		w.tick(i)
	}
}

// leader answers the node that leads, if one alone does, all know it, and all have the same Commit, which is its Next; else -1.
func (w *world) leader() int {
	leader := -1
	for i, x := range w.nodes {
		if x != nil && x.Leads() {
			if leader != -1 {
				return -1
			}
			leader = i
		}
	}
	for _, x := range w.nodes {
		if leader == -1 || x == nil || x.Broken() || x.Leader() != leader || x.Commit() != w.nodes[leader].Next() {
			return -1
		}
	}
	return leader
}

// rounds is how many calm rounds it may take till one leads and all is agreed on.
func (w *world) rounds() int {
	longest := 0
	for _, x := range w.nodes {
		longest = max(longest, x.Next())
	}
	return 60 + 20*w.n + 2*((longest+7)/8)
}

// heal: no disk refuses anything any more, and all nodes are opened.
func (w *world) heal() {
	w.t.Helper()
	clear(w.split)
	for i, d := range w.disks {
		d.Fail(false)
		d.Limit(bigRoom)
		if w.nodes[i] == nil || w.nodes[i].Broken() {
			if e := w.open(i); e != api.OK {
				w.t.Fatalf("Open: %d", e)
			}
		}
	}
}

// settle heals the world and holds it against P8.7; it answers how many rounds it took, and the leader.
func (w *world) settle() (int, int) {
	w.t.Helper()
	w.heal()
	most := w.rounds()
	took := 0
	for w.leader() == -1 {
		if took == most {
			for i, x := range w.nodes {
				w.t.Logf("node %d: term %d, leads %v, leader %d, First %d, Commit %d, Next %d", i, x.Term(), x.Leads(), x.Leader(), x.First(), x.Commit(), x.Next())
			}
			w.t.Fatalf("%d nodes aren't agreed behind %d rounds", w.n, most)
		}
		w.calm()
		took++
	}
	leader := w.leader()
	w.goesOn(leader)
	return took, leader
}

// goesOn: it goes on leading, and what it takes is below everyone's Commit behind six rounds.
func (w *world) goesOn(leader int) {
	w.t.Helper()
	term := w.nodes[leader].Term()
	leads := func() {
		w.t.Helper()
		if !w.nodes[leader].Leads() || w.nodes[leader].Term() != term {
			w.t.Fatalf("node %d doesn't go on leading", leader)
		}
	}
	for range 3 {
		last := 0
		for range w.rng.Intn(4) + 1 {
			at, e := w.propose(leader, w.text())
			if e != api.OK {
				w.t.Fatalf("Propose: %d", e)
			}
			last = at
		}
		for range 6 {
			w.calm()
			leads()
		}
		for i, x := range w.nodes {
			if x.Commit() <= last {
				w.t.Fatalf("entry %d isn't below Commit %d of node %d behind 6 rounds", last, x.Commit(), i)
			}
		}
	}
	for range 30 {
		w.calm()
		leads()
		if w.leader() != leader {
			w.t.Fatalf("not all are agreed any more on node %d", leader)
		}
	}
}
