package replog

import (
	"fmt"
	"math"
	"math/rand"
	"slices"
	"strings"
	"testing"

	"millrace/api"
	"millrace/disk"
	"millrace/frame"
	"millrace/seglog"
	"millrace/slot"
	"millrace/wire"
)

func newDisk(t *testing.T) *disk.Disk {
	t.Helper()
	d, e := disk.New(bigRoom)
	if e != api.OK {
		t.Fatal(e)
	}
	return d
}

func opened(t *testing.T, d *disk.Disk, id, nodes int) *Node {
	t.Helper()
	n, e := Open(d, id, nodes)
	if e != api.OK {
		t.Fatalf("Open: %d", e)
	}
	return n
}

// alone opens one node alone and lets it lead.
func alone(t *testing.T, d *disk.Disk) *Node {
	t.Helper()
	n := opened(t, d, 0, 1)
	for range 80 {
		if n.Leads() {
			return n
		}
		if mails := n.Tick(); len(mails) > 0 {
			t.Fatalf("one node alone sends %v", mails)
		}
	}
	t.Fatal("one node alone doesn't lead behind 80 ticks")
	return nil
}

// stored is what a disk holds, now and durable.
func stored(d *disk.Disk) string {
	var b strings.Builder
	for _, name := range d.Names() {
		now, _ := d.Read(name)
		durable, there := d.Durable(name)
		fmt.Fprintf(&b, "%s %x %x %v\n", name, now, durable, there)
	}
	return fmt.Sprintf("%s%d %d", b.String(), d.Used(), d.Pending())
}

// state is all that a node has, with its disk.
func state(n *Node, d *disk.Disk) string {
	return fmt.Sprint(n.terms, n.unsynced, n.broken, n.term, n.vote, n.role, n.leader, n.commit, n.quiet, n.opinions, n.votes, n.others, n.First(), n.Next(), stored(d))
}

// faces is what a node answers to those who ask it.
func faces(n *Node) string {
	var b strings.Builder
	for at := n.First() - 1; at <= n.Next(); at++ {
		data, term, e := n.Entry(at)
		fmt.Fprintf(&b, "%q %d %d, ", data, term, e)
	}
	return fmt.Sprint(n.Leads(), n.Leader(), n.Term(), n.First(), n.Commit(), n.Next(), n.Broken(), b.String())
}

// says makes a mail of a message.
func says(from, to, term int, x message) api.Mail {
	x.term = term
	return api.Mail{From: from, To: to, Data: x.write()}
}

// heard reads the only message of what a call answered.
func heard(t *testing.T, mails []api.Mail) message {
	t.Helper()
	if len(mails) != 1 {
		t.Fatalf("%d messages", len(mails))
	}
	x, ok := read(mails[0].Data)
	if !ok {
		t.Fatalf("no message: %v", mails[0].Data)
	}
	return x
}

func entries(terms ...int) []entry {
	var all []entry
	for i, term := range terms {
		e := entry{term: term}
		if i > 0 && terms[i-1] == term {
			e.data = fmt.Sprint("of ", term)
		}
		all = append(all, e)
	}
	return all
}

// planted writes a term, a vote and a log on a disk, as a node would have.
func planted(t *testing.T, term, vote int, log []entry) *disk.Disk {
	t.Helper()
	d := newDisk(t)
	n := opened(t, d, 0, 1)
	if term > 0 && !n.keep(term, vote) || n.extend(log...) != api.OK {
		t.Fatal("the disk refuses")
	}
	return d
}

func TestOpenErrors(t *testing.T) {
	for _, nodes := range []int{math.MinInt, -1, 0, 1, 2, 3, 7, 8, 9, math.MaxInt} {
		for _, id := range []int{math.MinInt, -1, 0, 1, 2, 6, 7, 8, math.MaxInt} {
			want := api.ErrArg
			if nodes >= 1 && nodes <= 7 && id >= 0 && id < nodes {
				want = api.OK
			}
			d := newDisk(t)
			n, e := Open(d, id, nodes)
			if e != want || (n == nil) != (e != api.OK) {
				t.Errorf("Open(%d, %d): %d", id, nodes, e)
			}
			if n, e := Open(nil, id, nodes); n != nil || e != api.ErrState {
				t.Errorf("Open(nil, %d, %d): %d", id, nodes, e)
			}
			if e == api.OK && (faces(n) != "false -1 0 0 0 0 false\"\" 0 7, \"\" 0 7, " || stored(d) != "0 0") {
				t.Errorf("Open(%d, %d): %s; the disk holds %s", id, nodes, faces(n), stored(d))
			}
		}
	}
}

// An error of the form goes ahead of the disk's, and leaves the disk as it is.
func checkForm(t *testing.T, what string, d *disk.Disk, want api.Errno) {
	t.Helper()
	for _, fails := range []bool{false, true} {
		d := d.Copy()
		d.Fail(fails)
		before := stored(d)
		n, e := Open(d, 0, 3)
		if e != want || (n == nil) != (e != api.OK) {
			t.Errorf("%s (fails: %v): %d, not %d", what, fails, e, want)
		}
		if e != api.OK && stored(d) != before {
			t.Errorf("%s: the disk was changed from\n%s\nto\n%s", what, before, stored(d))
		}
	}
}

func TestOpenForm(t *testing.T) {
	log := entries(1, 1, 3)
	write := func(d *disk.Disk, name string, at int, data []byte) *disk.Disk {
		if d.Write(name, at, data) != api.OK || d.Sync(name) != api.OK {
			t.Fatal("Write")
		}
		return d
	}
	framed := func(payload []byte) []byte {
		f, _ := frame.Put(payload)
		return f
	}
	value := func(items ...api.Item) *disk.Disk {
		d := planted(t, 3, 0, log)
		b, _ := wire.Encode(items)
		s, _ := slot.Open(d, slotName)
		if s.Put(string(b)) != api.OK {
			t.Fatal("Put")
		}
		return d
	}
	behind := func(payload []byte) *disk.Disk {
		d := planted(t, 3, 0, log)
		b, _ := d.Read("log-0")
		return write(d, "log-0", len(b), framed(payload))
	}
	item := func(items ...api.Item) []byte {
		b, _ := wire.Encode(items)
		return b
	}
	torn := func(d *disk.Disk) *disk.Disk {
		b, _ := d.Read("log-0")
		return write(d, "log-0", len(b), []byte("torn"))
	}
	without := func(d *disk.Disk, names ...string) *disk.Disk {
		for _, name := range names {
			if d.Remove(name) == api.OK {
				d.Sync(name)
			}
		}
		return d
	}
	moved := func(d *disk.Disk, to string) *disk.Disk {
		b, _ := d.Read("log-0")
		return write(without(d, "log-0"), to, 0, b)
	}
	for _, x := range []struct {
		what string
		d    *disk.Disk
		want api.Errno
	}{
		{"what a node has written", planted(t, 3, 0, log), api.OK},
		{"a term that has begun", planted(t, 9, -1, log), api.OK},
		{"a vote for the last node", planted(t, 3, 6, log), api.OK},
		{"a term without entries", planted(t, 3, 2, nil), api.OK},
		{"another's files", write(write(planted(t, 3, 0, log), "snap-a", 0, []byte("?")), "log", 0, []byte("?")), api.OK},
		{"an entry behind", behind(item(wire.Int(3), wire.Text("x"))), api.OK},
		{"the longest entry behind", behind(item(wire.Int(3), wire.Text(strings.Repeat("x", 40000)))), api.OK},
		{"an entry that is too long", behind(item(wire.Int(3), wire.Text(strings.Repeat("x", 40001)))), api.ErrForm},
		{"an entry above the node's term", behind(item(wire.Int(4), wire.Text(""))), api.ErrForm},
		{"an entry of a lower term", behind(item(wire.Int(2), wire.Text(""))), api.ErrForm},
		{"an entry without a term", behind(item(wire.Int(0), wire.Text(""))), api.ErrForm},
		{"a text behind", behind([]byte("junk")), api.ErrForm},
		{"an empty frame behind", behind(nil), api.ErrForm},
		{"a text in an empty log", junk(t, 3, []byte("junk")), api.ErrForm},
		{"an empty frame in an empty log", junk(t, 3, nil), api.ErrForm},
		{"an entry of term 0 in an empty log", junk(t, 3, item(wire.Int(0), wire.Text(""))), api.ErrForm},
		{"an entry of a term below 0 in an empty log", junk(t, 3, item(wire.Int(-1), wire.Text(""))), api.ErrForm},
		{"an entry in an empty log", junk(t, 3, item(wire.Int(1), wire.Text(""))), api.OK},
		{"an int alone", behind(item(wire.Int(3))), api.ErrForm},
		{"a text ahead of an int", behind(item(wire.Text(""), wire.Int(3))), api.ErrForm},
		{"two ints", behind(item(wire.Int(3), wire.Int(3))), api.ErrForm},
		{"more than an entry", behind(item(wire.Int(3), wire.Text(""), wire.Int(3))), api.ErrForm},
		{"an entry torn behind", torn(behind(item(wire.Int(2), wire.Text("")))), api.ErrForm},
		{"a term that begins with a text", planted(t, 3, 0, []entry{{1, ""}, {3, "x"}}), api.ErrForm},
		{"a log that begins with a text", planted(t, 3, 0, []entry{{1, "x"}}), api.ErrForm},
		{"a log that goes on within a term", moved(planted(t, 3, 0, []entry{{1, "x"}, {2, ""}}), "log-7"), api.OK},
		{"a log without a first term", moved(planted(t, 3, 0, []entry{{1, "x"}, {2, "x"}}), "log-7"), api.ErrForm},
		{"no votes", without(planted(t, 3, 0, log), "vote-a", "vote-b"), api.ErrForm},
		{"no votes and no entries behind First", write(newDisk(t), "log-7", 0, nil), api.ErrForm},
		{"no entries behind First", write(planted(t, 3, 0, nil), "log-7", 0, nil), api.OK},
		{"no log", without(planted(t, 3, 0, log), "log-0"), api.OK},
		{"a value of two ints", value(wire.Int(3), wire.Int(-1)), api.OK},
		{"an empty value", value(), api.ErrForm},
		{"a value of one int", value(wire.Int(3)), api.ErrForm},
		{"a value of three ints", value(wire.Int(3), wire.Int(0), wire.Int(0)), api.ErrForm},
		{"a text as a term", value(wire.Text("3"), wire.Int(0)), api.ErrForm},
		{"a text as a vote", value(wire.Int(3), wire.Text("0")), api.ErrForm},
		{"a term below 0", value(wire.Int(-3), wire.Int(0)), api.ErrForm},
		{"a term below the log's", value(wire.Int(2), wire.Int(0)), api.ErrForm},
		{"a vote below -1", value(wire.Int(3), wire.Int(-2)), api.ErrForm},
		{"a vote for nobody who can be", value(wire.Int(3), wire.Int(7)), api.ErrForm},
	} {
		checkForm(t, x.what, x.d, x.want)
	}
	for _, items := range [][]api.Item{
		nil,
		{wire.Int(0), wire.Int(-1)},
		{wire.Int(3)},
		{wire.Text("3"), wire.Int(0)},
		{wire.Int(3), wire.Int(7)},
	} {
		d := newDisk(t)
		s, _ := slot.Open(d, slotName)
		b, _ := wire.Encode(items)
		if s.Put(string(b)) != api.OK {
			t.Fatal("Put")
		}
		checkForm(t, fmt.Sprint("no log, and the value ", items), d, api.ErrForm)
	}
}

// junk answers the disk of a node whose log is one frame.
func junk(t *testing.T, term int, payload []byte) *disk.Disk {
	t.Helper()
	d := planted(t, term, 0, nil)
	f, _ := frame.Put(payload)
	if d.Write("log-0", 0, f) != api.OK || d.Sync("log-0") != api.OK {
		t.Fatal("Write")
	}
	return d
}

// A log that was torn is repaired; the disk's error is told, if it refuses that, and only then.
func TestOpenRepairs(t *testing.T) {
	whole := planted(t, 3, 0, entries(1, 1, 3))
	b, _ := whole.Read("log-0")
	for size := range len(b) {
		d := whole.Copy()
		d.Cut("log-0", size)
		d.Sync("log-0")
		payloads, end := frame.Cut(b[:size])
		refused := d.Copy()
		refused.Fail(true)
		want := api.ErrFault
		if end == size {
			want = api.OK
		}
		if n, e := Open(refused, 0, 3); e != want || (n == nil) != (e != api.OK) {
			t.Errorf("a log cut to %d bytes, and the disk fails: %d, not %d", size, e, want)
		}
		n := opened(t, d, 0, 3)
		if n.First() != 0 || n.Next() != len(payloads) || n.Term() != 3 {
			t.Errorf("a log cut to %d bytes: First %d, Next %d, term %d", size, n.First(), n.Next(), n.Term())
		}
	}
}

// TestLogOnDisk: it is one of layer 6, in segments of that room.
func TestLogOnDisk(t *testing.T) {
	d := newDisk(t)
	n := alone(t, d)
	for range 60 {
		if _, e := n.Propose(strings.Repeat("x", 40000)); e != api.OK {
			t.Fatal(e)
		}
	}
	for _, name := range []string{"log-0", "log-28"} {
		if b, _ := d.Read(name); len(b) < 1<<20 || len(b) > 1<<20+40100 {
			t.Errorf("%s has %d bytes", name, len(b))
		}
	}
	l, e := seglog.Open(d, "log", 1<<20)
	if e != api.OK || l.Next() != n.Next() {
		t.Errorf("seglog.Open: %d, Next %d", e, l.Next())
	}
}

func TestOneNode(t *testing.T) {
	d := newDisk(t)
	n := alone(t, d)
	if faces(n) != "true 0 1 0 1 1 false\"\" 0 7, \"\" 1 0, \"\" 0 7, " {
		t.Error(faces(n))
	}
	if at, e := n.Propose("a"); at != 1 || e != api.OK || n.Commit() != 2 {
		t.Errorf("%d, %d, Commit %d", at, e, n.Commit())
	}
	d.Crash(nil)
	n = opened(t, d, 0, 1)
	if faces(n) != "false -1 1 0 0 2 false\"\" 0 7, \"\" 1 0, \"a\" 1 0, \"\" 0 7, " {
		t.Error(faces(n))
	}
	n = alone(t, d)
	if faces(n) != "true 0 2 0 3 3 false\"\" 0 7, \"\" 1 0, \"a\" 1 0, \"\" 2 0, \"\" 0 7, " {
		t.Error(faces(n))
	}
	if len(n.Tick()) != 0 || !n.Leads() || n.Term() != 2 {
		t.Error("it doesn't go on leading")
	}
}

// TestEntryEdges: what isn't from First to Next - 1 isn't there.
func TestEntryEdges(t *testing.T) {
	d := planted(t, 3, 0, entries(1, 1, 3))
	n := opened(t, d, 0, 3)
	for _, at := range []int{math.MinInt, -1, 3, 4, math.MaxInt} {
		if data, term, e := n.Entry(at); data != "" || term != 0 || e != api.ErrNone {
			t.Errorf("Entry(%d): %q, %d, %d", at, data, term, e)
		}
	}
	for at, want := range entries(1, 1, 3) {
		if data, term, e := n.Entry(at); data != want.data || term != want.term || e != api.OK {
			t.Errorf("Entry(%d): %q, %d, %d", at, data, term, e)
		}
	}
}

func TestProposeErrors(t *testing.T) {
	long := strings.Repeat("x", 40001)
	d := newDisk(t)
	n := opened(t, d, 0, 1)
	check := func(what, data string, wantAt int, want api.Errno) {
		t.Helper()
		if at, e := n.Propose(data); at != wantAt || e != want {
			t.Errorf("%s: Propose of %d bytes: %d, error %d", what, len(data), at, e)
		}
	}
	check("not leading", "", 0, api.ErrLeader)
	check("not leading", long[1:], 0, api.ErrLeader)
	check("not leading", long, 0, api.ErrLong)
	n = alone(t, d)
	check("leading", long, 0, api.ErrLong)
	check("leading", long[1:], 1, api.OK)
	check("leading", "", 2, api.OK)
	check("leading", "\x00\xff", 3, api.OK)
	if data, term, e := n.Entry(1); data != long[1:] || term != 1 || e != api.OK {
		t.Errorf("the longest entry: %d bytes, %d, %d", len(data), term, e)
	}
	if data, _, _ := n.Entry(3); data != "\x00\xff" {
		t.Errorf("%q", data)
	}
	for _, full := range []bool{false, true} {
		d := d.Copy()
		n = alone(t, d)
		want := api.ErrFault
		if full {
			d.Limit(d.Used())
			want = api.ErrFull
		}
		d.Fail(!full)
		before := n.Next()
		check("on a disk that refuses, leading", long, 0, api.ErrLong)
		if n.Broken() {
			t.Error("broken by what is too long")
		}
		check("on a disk that refuses", "a", 0, want)
		if !n.Broken() || n.Leads() || n.Next() != before || n.Commit() != before {
			t.Errorf("behind a refusal: %s", faces(n))
		}
		d.Fail(false)
		d.Limit(bigRoom)
		check("broken", "a", 0, api.ErrState)
		check("broken", long, 0, api.ErrState)
	}
}

// TestBroken: a broken node does nothing any more, and goes on when it is opened again.
func TestBroken(t *testing.T) {
	d := planted(t, 3, -1, entries(1, 1, 3))
	n := opened(t, d, 0, 3)
	d.Fail(true)
	request := message{kind: aRequest, last: 3, next: 3}
	if mails := n.Receive(says(1, 0, 4, request)); len(mails) > 0 || !n.Broken() || n.Term() != 3 {
		t.Fatalf("a disk that fails: %v, %s", mails, faces(n))
	}
	d.Fail(false)
	before, term := state(n, d), 4
	for range 40 {
		term++
		if len(n.Tick()) > 0 || len(n.Receive(says(1, 0, term, request))) > 0 {
			t.Fatal("a broken node sends something")
		}
	}
	if e := n.Drop(0); e != api.ErrState {
		t.Errorf("Drop: %d", e)
	}
	if state(n, d) != before {
		t.Errorf("a broken node has changed: %s", faces(n))
	}
	n = opened(t, d, 0, 3)
	if x := heard(t, n.Receive(says(1, 0, 4, request))); x.kind != aVote || x.say != 1 || x.term != 4 {
		t.Errorf("opened again: %v", x)
	}
}

// TestEachRefusal: whatever the disk refuses breaks the node, at any call that needs it, and it never says what it hasn't stored.
func TestEachRefusal(t *testing.T) {
	for _, x := range []struct {
		what string
		mail api.Mail
	}{
		{"a new term", says(1, 0, 4, message{kind: aPoll, last: 3, next: 3})},
		{"a vote", says(1, 0, 3, message{kind: aRequest, last: 3, next: 3})},
		{"an entry", says(1, 0, 3, message{kind: anAppend, at: 3, last: 3, entries: entries(3)})},
		{"another entry", says(1, 0, 3, message{kind: anAppend, at: 1, last: 1, entries: entries(2)})},
		{"an acknowledgement", says(1, 0, 3, message{kind: anAppend, at: 3, last: 3})},
	} {
		d := planted(t, 3, -1, entries(1, 1, 3))
		n := opened(t, d, 0, 3)
		twin := d.Copy()
		d.Fail(true)
		if mails := n.Receive(x.mail); len(mails) > 0 || !n.Broken() || n.Leader() != -1 || n.Term() != 3 {
			t.Errorf("%s on a disk that fails: %v, %s", x.what, mails, faces(n))
		}
		n = opened(t, twin, 0, 3)
		if mails := n.Receive(x.mail); len(mails) != 1 || n.Broken() {
			t.Errorf("%s: %v, %s", x.what, mails, faces(n))
		}
	}
	d := planted(t, 3, 1, entries(1, 1, 3))
	n := opened(t, d, 0, 3)
	n.Receive(says(2, 0, 3, message{kind: anAppend, at: 3, last: 3}))
	d.Fail(true)
	for _, m := range []api.Mail{
		says(2, 0, 3, message{kind: anAppend, at: 3, last: 3, commit: 3}),
		says(2, 0, 3, message{kind: anAppend, at: 2, last: 1, entries: entries(3)}),
		says(2, 0, 3, message{kind: anAppend, at: 9, last: 3}),
		says(2, 0, 2, message{kind: anAppend, at: 3, last: 2}),
		says(1, 0, 3, message{kind: aPoll, last: 3, next: 3}),
		says(1, 0, 3, message{kind: aRequest, last: 3, next: 3}),
		says(2, 0, 3, message{kind: aRequest, last: 3, next: 3}),
	} {
		if mails := n.Receive(m); len(mails) != 1 || n.Broken() {
			t.Errorf("what needs no disk: %v, %s", mails, faces(n))
		}
	}
	if n.Commit() != 3 {
		t.Errorf("Commit %d", n.Commit())
	}
	d = newDisk(t)
	n = opened(t, d, 0, 1)
	d.Fail(true)
	for range 80 {
		n.Tick()
	}
	if !n.Broken() || n.Leads() || n.Term() != 0 {
		t.Errorf("a campaign on a disk that fails: %s", faces(n))
	}
	// There is room for the vote, and none for the entry that a leader begins with.
	d = planted(t, 1, 0, nil)
	if !opened(t, d, 0, 1).keep(1, 0) {
		t.Fatal("the disk refuses")
	}
	d.Limit(d.Used())
	n = opened(t, d, 0, 1)
	for range 80 {
		n.Tick()
	}
	if !n.Broken() || n.Leads() || n.Leader() != -1 || n.Term() != 2 || n.Commit() != 0 {
		t.Errorf("a full disk ahead of a leader's first entry: %s", faces(n))
	}
}

func TestNil(t *testing.T) {
	var n *Node
	if n.Tick() != nil || n.Receive(says(1, 0, 1, message{kind: aPoll})) != nil || n.Leads() || n.Leader() != -1 || n.Term() != 0 || n.First() != 0 || n.Commit() != 0 || n.Next() != 0 || !n.Broken() {
		t.Error("a nil node")
	}
	for _, i := range []int{-1, 0, 1, math.MaxInt} {
		if at, e := n.Propose(strings.Repeat("x", max(i, 0)&65535)); at != 0 || e != api.ErrState {
			t.Errorf("Propose: %d, %d", at, e)
		}
		if e := n.Drop(i); e != api.ErrState {
			t.Errorf("Drop(%d): %d", i, e)
		}
		if data, term, e := n.Entry(i); data != "" || term != 0 || e != api.ErrState {
			t.Errorf("Entry(%d): %q, %d, %d", i, data, term, e)
		}
	}
}

func TestDrop(t *testing.T) {
	d := newDisk(t)
	n := alone(t, d)
	for range 90 {
		n.Propose(strings.Repeat("x", 40000))
	}
	bases := []int{0}
	for _, name := range d.Names() {
		var base int
		if k, _ := fmt.Sscanf(name, "log-%d", &base); k == 1 && base > 0 {
			bases = append(bases, base)
		}
	}
	slices.Sort(bases)
	if len(bases) != 4 {
		t.Fatalf("segments from %v on", bases)
	}
	check := func(to int, want api.Errno, first int) {
		t.Helper()
		before := faces(n)
		if e := n.Drop(to); e != want || n.First() != first || n.Next() != 91 || n.Commit() != 91 || !n.Leads() {
			t.Errorf("Drop(%d): %d, First %d (%d), Next %d, Commit %d", to, e, n.First(), first, n.Next(), n.Commit())
		}
		if want != api.OK && faces(n) != before {
			t.Errorf("Drop(%d) changes the node", to)
		}
	}
	for _, to := range []int{math.MinInt, -1, 0, 1, bases[1] - 1} {
		check(to, api.OK, 0)
	}
	for _, to := range []int{92, math.MaxInt} {
		check(to, api.ErrRange, 0)
	}
	check(bases[1], api.OK, bases[1])
	check(bases[1]-1, api.OK, bases[1])
	check(0, api.OK, bases[1])
	check(bases[3]-1, api.OK, bases[2])
	check(91, api.OK, bases[3])
	for at := range 92 {
		data, term, e := n.Entry(at)
		there := at >= bases[3] && at < 91
		if there != (e == api.OK) || there && (len(data) != 40000 || term != 1) {
			t.Errorf("Entry(%d): %d bytes, %d, %d", at, len(data), term, e)
		}
	}
	if at, e := n.Propose("behind"); at != 91 || e != api.OK || n.Commit() != 92 {
		t.Errorf("Propose: %d, %d", at, e)
	}
	d.Crash(nil)
	n = opened(t, d, 0, 1)
	if n.First() != bases[3] || n.Commit() != bases[3] || n.Next() != 92 {
		t.Errorf("opened again: First %d, Commit %d, Next %d", n.First(), n.Commit(), n.Next())
	}
	if e := n.Drop(bases[3] + 1); e != api.ErrRange {
		t.Errorf("Drop above Commit: %d", e)
	}
	if n = alone(t, d); n.Commit() != 93 || n.Term() != 2 {
		t.Errorf("leading again: Commit %d, term %d", n.Commit(), n.Term())
	}
	if data, term, e := n.Entry(91); data != "behind" || term != 1 || e != api.OK {
		t.Errorf("%q, %d, %d", data, term, e)
	}
	d.Fail(true)
	if e := n.Drop(200); e != api.ErrRange || n.Broken() {
		t.Errorf("Drop above Commit on a disk that fails: %d", e)
	}
	if e := n.Drop(bases[3]); e != api.OK || n.Broken() {
		t.Errorf("Drop of nothing on a disk that fails: %d", e)
	}
	if e := n.Drop(92); e != api.ErrFault || !n.Broken() {
		t.Errorf("Drop on a disk that fails: %d", e)
	}
	if e := n.Drop(200); e != api.ErrState {
		t.Errorf("Drop of a broken node: %d", e)
	}
}

// TestTwoOfThree: one of them leads and commits; the third alone never does.
func TestTwoOfThree(t *testing.T) {
	for third := range 3 {
		w := newWorld(t, 3, int64(third))
		w.split[third] = 1
		for round := range 200 {
			w.calm()
			if round > 60 {
				w.propose(w.likely(0), w.text())
			}
		}
		leaders := 0
		for i, x := range w.nodes {
			if i == third {
				if x.Leads() || x.Commit() != 0 || x.Term() != 0 {
					t.Errorf("the third: %s", faces(x))
				}
				continue
			}
			if x.Commit() < 70 {
				t.Errorf("node %d: Commit %d", i, x.Commit())
			}
			if x.Leads() {
				leaders++
			}
		}
		if leaders != 1 {
			t.Errorf("%d of two lead", leaders)
		}
		w.settle()
	}
}

// TestLeaderCrashes: another one leads, and what was below Commit is there; the old one takes part again.
func TestLeaderCrashes(t *testing.T) {
	for n := 3; n <= api.MaxNodes; n++ {
		w := newWorld(t, n, int64(n))
		for range 2*n + 1 {
			_, leader := w.settle()
			w.propose(leader, w.text())
			w.crash(leader, nil)
			down := leader
			other := -1
			for range 200 {
				w.calm()
				for i, x := range w.nodes {
					if x != nil && x.Leads() {
						other = i
					}
				}
			}
			if other == -1 || other == down {
				t.Fatalf("%d nodes, %d is down: %d leads", n, down, other)
			}
			at, e := w.propose(other, w.text())
			for range 6 {
				w.calm()
			}
			for i, x := range w.nodes {
				if x != nil && (e != api.OK || x.Commit() <= at || x.Leader() != other) {
					t.Fatalf("node %d: Commit %d, leader %d; %d leads, and its entry %d, error %d", i, x.Commit(), x.Leader(), other, at, e)
				}
			}
		}
	}
}

// TestNobodyAnswers: a leader whose others are down takes entries, and they never stay till one is back.
func TestNobodyAnswers(t *testing.T) {
	w := newWorld(t, 3, 1)
	_, leader := w.settle()
	commit := w.nodes[leader].Commit()
	back := (leader + 1) % 3
	w.crash(back, nil)
	w.crash((leader+2)%3, nil)
	at, e := w.propose(leader, "waits")
	for range 100 {
		w.calm()
	}
	if e != api.OK || !w.nodes[leader].Leads() || w.nodes[leader].Commit() != commit {
		t.Fatalf("%d, %s", e, faces(w.nodes[leader]))
	}
	w.open(back)
	for range 6 {
		w.calm()
	}
	if !w.nodes[leader].Leads() || w.nodes[leader].Commit() <= at || w.nodes[back].Commit() <= at {
		t.Errorf("one is back: %s", faces(w.nodes[leader]))
	}
}

// parted lets nodes 0 and 1 of three lead in turn, each as often as it is said, with node 2's votes, while no entry comes through to another node.
func parted(t *testing.T, times int) *world {
	t.Helper()
	w := newWorld(t, 3, 1)
	for k := range 2 * times {
		leader, term := k%2, k+1
		x := w.nodes[leader]
		if !x.keep(term, leader) {
			t.Fatal("the disk refuses")
		}
		x.role, x.votes = asks, [api.MaxNodes]bool{}
		x.count(leader)
		votes := w.nodes[2].Receive(says(leader, 2, term, x.candidacy(aRequest)))
		x.Receive(votes[0])
		if !x.Leads() || x.Term() != term {
			t.Fatalf("term %d: node %d doesn't lead", term, leader)
		}
	}
	for i := range w.nodes {
		w.look(i)
	}
	return w
}

// TestLogsThatPart: logs that differ in each of many terms become one in time (P8.7).
func TestLogsThatPart(t *testing.T) {
	t.Parallel()
	for _, times := range []int{1, 2, 7, 40, 499, 500, 501, 2500} {
		for _, down := range []int{-1, 0, 1, 2} {
			w := parted(t, times)
			if down >= 0 {
				w.crash(down, nil)
			}
			took, _ := w.settle()
			if w.nodes[0].Next() < times {
				t.Errorf("%d times: Next %d", times, w.nodes[0].Next())
			}
			if took > 60 {
				t.Errorf("%d times: %d rounds", times, took)
			}
		}
	}
}

// TestLongLogs: a node that has nothing is told all, however much that is.
func TestLongLogs(t *testing.T) {
	w := newWorld(t, 3, 1)
	_, leader := w.settle()
	late := (leader + 1) % 3
	w.split[late] = 1
	for k := range 3000 {
		w.nodes[leader].Propose(fmt.Sprint(k))
		w.proposed[fmt.Sprint(k)] = true
	}
	for range 30 {
		big := w.text() + strings.Repeat("y", 39000)
		w.propose(leader, big)
	}
	for range 20 {
		w.calm()
	}
	if w.nodes[leader].Commit() < 3030 || w.nodes[late].Commit() > 100 {
		t.Fatalf("Commit %d, %d", w.nodes[leader].Commit(), w.nodes[late].Commit())
	}
	w.settle()
	if w.nodes[late].Commit() < 3030 {
		t.Errorf("Commit %d", w.nodes[late].Commit())
	}
}

// TestManyAtOnce: each of many entries stays behind six rounds.
func TestManyAtOnce(t *testing.T) {
	for n := 2; n <= api.MaxNodes; n += 5 {
		w := newWorld(t, n, 1)
		_, leader := w.settle()
		for range 1500 {
			w.proposed[w.text()] = true
			w.nodes[leader].Propose(fmt.Sprint(w.handed))
		}
		for k := range 20 {
			w.propose(leader, w.text()+strings.Repeat("z", 39990-500*k))
		}
		for range 6 {
			w.calm()
		}
		if w.leader() != leader {
			t.Errorf("%d nodes: %s", n, faces(w.nodes[0])[:40])
		}
	}
}

// TestUniqueCampaign: nodes that begin at once don't split their votes.
func TestUniqueCampaign(t *testing.T) {
	for n := 1; n <= api.MaxNodes; n++ {
		w := newWorld(t, n, 1)
		took, leader := w.settle()
		if took > 25 || leader != 0 || w.nodes[0].Term() != 1 {
			t.Errorf("%d nodes: %d rounds, node %d leads in term %d", n, took, leader, w.nodes[0].Term())
		}
	}
}

// TestOneVote: a node votes once in a term, through crashes too, and only for one that is as far as it is.
func TestOneVote(t *testing.T) {
	request := func(term, last, next int) message {
		return message{kind: aRequest, term: term, last: last, next: next}
	}
	for _, x := range []struct {
		vote, term int
		from       int
		last, next int
		want       int
	}{
		{-1, 4, 1, 3, 3, 1}, // as far as the node
		{-1, 4, 1, 3, 9, 1},
		{-1, 4, 1, 4, 1, 1},
		{-1, 4, 1, 3, 2, 0},
		{-1, 4, 1, 2, 9, 0},
		{-1, 4, 1, 0, 0, 0},
		{1, 4, 1, 3, 3, 1}, // again
		{1, 4, 2, 9, 9, 0}, // it has voted
		{2, 4, 1, 4, 9, 0},
		{0, 4, 1, 4, 9, 0},
		{1, 5, 2, 4, 9, 1}, // a new term
		{1, 3, 1, 3, 9, 0}, // one that is over
		{-1, 3, 1, 3, 9, 0},
	} {
		d := planted(t, 4, x.vote, entries(1, 1, 3))
		n := opened(t, d, 0, 3)
		x.last = min(x.last, x.term)
		got := heard(t, n.Receive(says(x.from, 0, x.term, request(x.term, x.last, x.next))))
		if got.kind != aVote || got.say != x.want || got.term != max(x.term, 4) || n.Term() != got.term {
			t.Errorf("%v: %v, term %d", x, got, n.Term())
		}
		d.Crash(nil)
		n = opened(t, d, 0, 3)
		if n.Term() != got.term {
			t.Errorf("%v: behind a crash the term is %d", x, n.Term())
		}
		other := 3 - x.from
		again := heard(t, n.Receive(says(other, 0, got.term, request(got.term, min(4, got.term), 9))))
		voted := x.vote
		if x.term > 4 {
			voted = -1
		}
		if x.want == 1 {
			voted = x.from
		}
		want := 0
		if voted == -1 || voted == other {
			want = 1
		}
		if again.say != want {
			t.Errorf("%v: behind a crash node %d gets %d, not %d", x, other, again.say, want)
		}
	}
}

// TestVotesCount: only votes of that term, each node's once, make a leader.
func TestVotesCount(t *testing.T) {
	candidate := func() *Node {
		n := opened(t, newDisk(t), 0, 5)
		for n.role != asks {
			n.Tick()
			for from := 1; from <= 2; from++ {
				n.Receive(says(from, 0, 0, message{kind: anOpinion, say: favour}))
			}
		}
		return n
	}
	n := candidate()
	vote := message{kind: aVote, say: 1}
	for range 5 {
		n.Receive(says(1, 0, 1, vote))
		n.Receive(says(2, 0, 0, vote))
		n.Receive(says(3, 0, 1, message{kind: aVote}))
	}
	if n.Leads() || n.Term() != 1 || n.Leader() != -1 {
		t.Errorf("with one vote: %s", faces(n))
	}
	n.Receive(says(4, 0, 1, vote))
	if !n.Leads() || n.Term() != 1 || n.Leader() != 0 {
		t.Errorf("with two votes: %s", faces(n))
	}
	n = candidate()
	for from := 1; from < 5; from++ {
		n.Receive(says(from, 0, 2, vote)) // another's election
	}
	if n.Leads() || n.Term() != 2 {
		t.Errorf("with votes of a later term: %s", faces(n))
	}
}

// TestOpinions: who is favoured (5 ticks without a leader are enough), and who goes on itself at once.
func TestOpinions(t *testing.T) {
	for _, x := range []struct {
		from, last, next int
		want             int
	}{
		{0, 3, 3, favour},
		{2, 3, 3, rival},
		{2, 3, 4, favour},
		{2, 4, 1, favour},
		{0, 3, 2, rival},
		{0, 1, 9, rival},
		{0, 0, 0, rival},
	} {
		for quiet := range 25 {
			d := planted(t, 4, -1, entries(1, 1, 3))
			n := opened(t, d, 1, 3)
			for range quiet {
				n.Tick()
			}
			want := dislike
			if quiet >= 5 {
				want = x.want
			}
			got := heard(t, n.Receive(says(x.from, 1, 4, message{kind: aPoll, last: x.last, next: x.next})))
			if got.kind != anOpinion || got.say != want || n.Term() != 4 {
				t.Errorf("%v behind %d ticks: %v", x, quiet, got)
			}
			if polls := n.Tick(); quiet >= 5 && quiet < 10 && (len(polls) > 0) != (want == rival || quiet == 9) {
				t.Errorf("%v behind %d ticks: then %d messages", x, quiet, len(polls))
			}
		}
	}
	n := led(t, planted(t, 4, -1, entries(1, 1, 3)))
	n.quiet = 7 // the votes came late
	if got := heard(t, n.Receive(says(1, 0, 5, message{kind: aPoll, last: 5, next: 9}))); got.say != dislike {
		t.Errorf("one who leads: %v", got)
	}
}

// TestRival: one rival is enough that a node doesn't ask for votes, till the poll is begun anew without one.
func TestRival(t *testing.T) {
	n := opened(t, newDisk(t), 4, 5)
	tell := func(from, say int) { n.Receive(says(from, 4, 0, message{kind: anOpinion, say: say})) }
	for round := range 40 {
		n.Tick()
		for from := range 3 {
			tell(from, favour)
		}
		tell(3, rival)
		if n.Term() != 0 || n.Leads() {
			t.Fatalf("tick %d: %s", round, faces(n))
		}
	}
	for range 10 {
		n.Tick()
		tell(0, favour)
		tell(1, dislike)
		tell(2, dislike)
	}
	if n.Term() != 0 {
		t.Errorf("favoured by one of four: %s", faces(n))
	}
	for range 10 {
		n.Tick()
		tell(0, favour)
		tell(2, favour)
	}
	if n.Term() != 1 || n.Leads() {
		t.Errorf("favoured by two of four: %s", faces(n))
	}
}

// TestNewTerm: in a term that another one tells of nobody is known to lead, and nobody has been voted for; a term that is over changes nothing.
func TestNewTerm(t *testing.T) {
	for _, kind := range []int{aPoll, anOpinion, aRequest, aVote, anAck, aRefusal} {
		for _, term := range []int{3, 4, 5} {
			d := planted(t, 4, 2, entries(1, 1, 3))
			n := opened(t, d, 0, 3)
			n.Receive(says(2, 0, 4, message{kind: anAppend, at: 3, last: 3}))
			x := message{kind: kind}
			if kind == anOpinion {
				x.say = dislike
			}
			n.Receive(says(1, 0, term, x))
			wantLeader, wantVote := 2, 2
			if term == 5 {
				wantLeader, wantVote = -1, -1
			}
			if n.Leader() != wantLeader || n.vote != wantVote || n.Term() != max(term, 4) {
				t.Errorf("a message of kind %d of term %d: leader %d, vote %d, term %d", kind, term, n.Leader(), n.vote, n.Term())
			}
			d.Crash(nil)
			if n := opened(t, d, 0, 3); n.vote != wantVote || n.Term() != max(term, 4) {
				t.Errorf("a message of kind %d of term %d: behind a crash vote %d, term %d", kind, term, n.vote, n.Term())
			}
		}
	}
	n := led(t, planted(t, 4, -1, entries(1, 1, 3)))
	if n.Receive(says(1, 0, 6, message{kind: aVote})); n.Leads() || n.Leader() != -1 || n.Term() != 6 {
		t.Errorf("one that led: %s", faces(n))
	}
	if _, e := n.Propose("a"); e != api.ErrLeader {
		t.Errorf("one that led: %d", e)
	}
}

// TestPollFirst: a node that nobody favours begins no term, and deposes nobody.
func TestPollFirst(t *testing.T) {
	for n := 2; n <= api.MaxNodes; n++ {
		w := newWorld(t, n, 1)
		_, leader := w.settle()
		term := w.nodes[leader].Term()
		alone := (leader + 1) % n
		for range 300 {
			w.tick(alone)
			w.post = nil
		}
		if w.nodes[alone].Term() != term {
			t.Errorf("%d nodes: alone it came to term %d", n, w.nodes[alone].Term())
		}
		for range 20 {
			w.calm()
		}
		if w.leader() != leader || w.nodes[leader].Term() != term {
			t.Errorf("%d nodes: it deposed the leader", n)
		}
	}
}

// TestLeaderForgotten: one who is taken for the leader is forgotten ahead of the vote, one tick.
func TestLeaderForgotten(t *testing.T) {
	n := opened(t, newDisk(t), 1, 3)
	n.Receive(says(2, 1, 1, message{kind: anAppend}))
	for range 60 {
		n.Tick()
	}
	if n.Leader() != 2 || n.Term() != 1 {
		t.Fatalf("in quiet: %s", faces(n))
	}
	for n.Leader() == 2 {
		n.Receive(says(0, 1, 1, message{kind: anOpinion, say: favour}))
		n.Tick()
		if n.Term() != 1 {
			t.Fatal("it asks for votes while it takes another one for its leader")
		}
	}
	twin := *n
	if n.Receive(says(2, 1, 1, message{kind: anAppend})); n.Leader() != 2 {
		t.Errorf("its leader is heard again: %s", faces(n))
	}
	n.Tick()
	if n.Term() != 1 {
		t.Error("it asks for votes though its leader is heard again")
	}
	if twin.Tick(); twin.Term() != 2 {
		t.Error("it doesn't ask for votes")
	}
}

// TestAckedIsDurable: what a follower has said that it has is there behind a crash, even if it was opened with entries that weren't durable.
func TestAckedIsDurable(t *testing.T) {
	log := []entry{{1, ""}, {1, strings.Repeat("a", 500)}, {1, strings.Repeat("b", 500)}, {1, strings.Repeat("c", 500)}}
	d := planted(t, 1, -1, nil)
	n := opened(t, d, 0, 3)
	d.Limit(d.Used() + 1200)
	tell := says(1, 0, 1, message{kind: anAppend, commit: 4, entries: log})
	if mails := n.Receive(tell); len(mails) > 0 || !n.Broken() || n.Next() != 3 || n.Commit() != 0 || d.Pending() == 0 {
		t.Fatalf("a full disk: %v, %s, %d changes that aren't durable", mails, faces(n)[:30], d.Pending())
	}
	lost := d.Copy()
	lost.Crash(nil)
	if n := opened(t, lost, 0, 3); n.Next() != 0 {
		t.Fatalf("behind a crash: Next %d", n.Next())
	}
	d.Limit(bigRoom)
	n = opened(t, d, 0, 3)
	if n.Next() != 3 || n.Commit() != 0 {
		t.Fatalf("opened without a crash: Next %d", n.Next())
	}
	x := heard(t, n.Receive(says(1, 0, 1, message{kind: anAppend, commit: 4, entries: log[:3]})))
	if x.kind != anAck || x.at != 3 || n.Commit() != 3 {
		t.Fatalf("%v, Commit %d", x, n.Commit())
	}
	d.Crash(nil)
	if n := opened(t, d, 0, 3); n.Next() != 3 {
		t.Errorf("acked, and behind a crash Next is %d", n.Next())
	}
}

// TestLeaderIsDurable: what a leader counts for itself is durable: also entries that it was opened with.
func TestLeaderIsDurable(t *testing.T) {
	d := planted(t, 1, -1, nil)
	n := opened(t, d, 0, 1)
	l, _ := seglog.Open(d, logName, room)
	b, _ := wire.Encode(entry{term: 1}.items())
	l.Append(b)
	n = alone(t, d)
	if n.Commit() != 2 {
		t.Fatalf("Commit %d", n.Commit())
	}
	n.Propose("a")
	d.Crash(nil)
	if n = opened(t, d, 0, 1); n.Next() != 3 {
		t.Errorf("Next %d", n.Next())
	}
}

// led lets node 0 of three lead in the term behind that of its disk.
func led(t *testing.T, d *disk.Disk) *Node {
	t.Helper()
	n := opened(t, d, 0, 3)
	for range 80 {
		n.Tick()
		n.Receive(says(1, 0, 0, message{kind: anOpinion, say: favour}))
		n.Receive(says(1, 0, n.Term(), message{kind: aVote, say: 1}))
		if n.Leads() {
			return n
		}
	}
	t.Fatal("it doesn't lead")
	return nil
}

// TestOlderTerms: entries of older terms stay only together with one of the leader's own.
func TestOlderTerms(t *testing.T) {
	n := led(t, planted(t, 3, 0, entries(1, 1, 3)))
	ack := func(from, at, want int) {
		t.Helper()
		n.Receive(says(from, 0, n.Term(), message{kind: anAck, at: at}))
		if n.Commit() != want {
			t.Errorf("behind an ack of %d by %d: Commit %d, not %d", at, from, n.Commit(), want)
		}
	}
	if n.Next() != 4 || n.Commit() != 0 {
		t.Fatal(faces(n))
	}
	ack(1, 3, 0)
	ack(2, 3, 0)
	ack(1, 5, 0) // more than there is
	n.Receive(says(1, 0, 3, message{kind: anAck, at: 4}))
	if n.Commit() != 0 {
		t.Error("an ack of an older term counts")
	}
	ack(1, 4, 4)
	n.Propose("a")
	ack(1, 4, 4)
	ack(2, 2, 4)
	ack(2, 5, 5)
	ack(1, 3, 5)
	n.Propose("b")
	ack(1, 6, 6)
}

// TestLateAcks: what was acknowledged once counts, though an older ack comes behind it.
func TestLateAcks(t *testing.T) {
	w := newWorld(t, 5, 1)
	_, leader := w.settle()
	x := w.nodes[leader]
	at, _ := w.propose(leader, w.text())
	ack := func(from, at int) {
		from = (leader + from) % 5
		x.Receive(says(from, leader, x.Term(), message{kind: anAck, at: at}))
	}
	ack(1, at+1)
	ack(1, at-1)
	ack(1, 0)
	if x.Commit() > at {
		t.Fatalf("two of five have it: Commit %d", x.Commit())
	}
	ack(2, at+1)
	if x.Commit() != at+1 {
		t.Errorf("three of five have it: Commit %d, not %d", x.Commit(), at+1)
	}
}

// TestMajority: an entry stays when more than half have it, and not ahead of that.
func TestMajority(t *testing.T) {
	for nodes := 2; nodes <= api.MaxNodes; nodes++ {
		w := newWorld(t, nodes, 1)
		_, leader := w.settle()
		x := w.nodes[leader]
		before := x.Commit()
		at, _ := w.propose(leader, w.text())
		have := 1
		for from := range nodes {
			if from == leader {
				continue
			}
			want := before
			if have > nodes/2 {
				want = at + 1
			}
			if x.Commit() != want {
				t.Errorf("%d of %d have it: Commit %d, not %d", have, nodes, x.Commit(), want)
			}
			x.Receive(says(from, leader, x.Term(), message{kind: anAck, at: at + 1}))
			have++
		}
		if x.Commit() != at+1 {
			t.Errorf("all of %d have it: Commit %d", nodes, x.Commit())
		}
	}
}

// TestAppends: what a follower makes of what a leader sends, whatever it has.
func TestAppends(t *testing.T) {
	for _, x := range []struct {
		what           string
		at, last       int
		commit         int
		terms          []int
		kind, same     int // what it answers
		log            []int
		wantCommit     int
		refusalsRuns   []run
		term, nodeTerm int
	}{
		{what: "nothing, from the beginning", log: []int{1, 1, 3}, kind: anAck},
		{what: "nothing, behind all", at: 3, last: 3, commit: 2, log: []int{1, 1, 3}, kind: anAck, same: 3, wantCommit: 2},
		{what: "a Commit beyond what is the same", at: 2, last: 1, commit: 9, log: []int{1, 1, 3}, kind: anAck, same: 2, wantCommit: 2},
		{what: "entries behind", at: 3, last: 3, commit: 4, terms: []int{3, 4}, log: []int{1, 1, 3, 3, 4}, kind: anAck, same: 5, wantCommit: 4},
		{what: "entries that it has", at: 1, last: 1, commit: 9, terms: []int{1}, log: []int{1, 1, 3}, kind: anAck, same: 2, wantCommit: 2},
		{what: "entries that it has in part", at: 1, last: 1, commit: 3, terms: []int{1, 3, 4}, log: []int{1, 1, 3, 4}, kind: anAck, same: 4, wantCommit: 3},
		{what: "other entries", at: 1, last: 1, commit: 1, terms: []int{2}, log: []int{1, 2}, kind: anAck, same: 2, wantCommit: 1},
		{what: "other entries from the first on", terms: []int{2, 2, 2, 2}, log: []int{2, 2, 2, 2}, kind: anAck, same: 4},
		{what: "a gap", at: 4, last: 3, commit: 4, terms: []int{4}, log: []int{1, 1, 3}, kind: aRefusal, same: 3, refusalsRuns: []run{{2, 3}, {0, 1}}},
		{what: "another one ahead", at: 3, last: 4, commit: 3, terms: []int{4}, log: []int{1, 1, 3}, kind: aRefusal, same: 3, refusalsRuns: []run{{2, 3}, {0, 1}}},
		{what: "another one ahead, not at the end", at: 2, last: 2, terms: []int{4}, log: []int{1, 1, 3}, kind: aRefusal, same: 2, refusalsRuns: []run{{0, 1}}},
		{what: "an older term", at: 3, last: 3, commit: 3, terms: []int{3}, term: 3, log: []int{1, 1, 3}, kind: aRefusal, nodeTerm: 4},
	} {
		d := planted(t, 4, -1, entries(1, 1, 3))
		n := opened(t, d, 0, 3)
		var sent []entry
		for i, term := range x.terms {
			sent = append(sent, entry{term, ""})
			if at := x.at + i; at < 3 && entries(1, 1, 3)[at].term == term {
				sent[i] = entries(1, 1, 3)[at]
			}
		}
		if x.term == 0 {
			x.term = 4
		}
		for range 2 { // it may come twice
			got := heard(t, n.Receive(says(2, 0, x.term, message{kind: anAppend, serial: 7, at: x.at, last: x.last, commit: x.commit, entries: sent})))
			if got.kind != x.kind || got.at != x.same || !slices.Equal(got.runs, x.refusalsRuns) || got.term != 4 || x.kind == aRefusal && got.serial != 7 {
				t.Errorf("%s: %v", x.what, got)
			}
			if !slices.Equal(n.terms, x.log) || n.Next() != len(x.log) || n.Commit() != x.wantCommit {
				t.Errorf("%s: the log has %v, Commit %d", x.what, n.terms, n.Commit())
			}
			if leader := n.Leader(); (leader == 2) != (x.term == 4) {
				t.Errorf("%s: leader %d", x.what, leader)
			}
		}
		d.Crash(nil)
		if n := opened(t, d, 0, 3); !slices.Equal(n.terms, x.log) {
			t.Errorf("%s: behind a crash the log has %v", x.what, n.terms)
		}
	}
}

// dropped answers the disk of a node that has dropped a segment, and its First.
func dropped(t *testing.T) (*disk.Disk, int) {
	t.Helper()
	d := newDisk(t)
	n := alone(t, d)
	for range 40 {
		n.Propose(strings.Repeat("x", 40000))
	}
	if n.Drop(40) != api.OK || n.First() == 0 || n.First() > 30 {
		t.Fatalf("First %d", n.First())
	}
	return d, n.First()
}

// TestBehindFirst: what lies ahead of First is the same everywhere, whoever has it still.
func TestBehindFirst(t *testing.T) {
	d, first := dropped(t)
	x := entry{1, "x"} // it counts for one of the same term
	n := opened(t, d, 0, 3)
	tell := func(x message, want int) {
		t.Helper()
		x.kind = anAppend
		if got := heard(t, n.Receive(says(1, 0, 2, x))); got.kind != anAck || got.at != want || n.First() != first {
			t.Errorf("%d, %d, First %d", got.kind, got.at, n.First())
		}
	}
	tell(message{at: 0, commit: 0}, first)
	tell(message{at: 5, last: 1, commit: 3}, first)
	tell(message{at: first - 2, last: 1, commit: first + 1, entries: []entry{x, x, x}}, first+1)
	if n.Commit() != first+1 || n.Next() != 41 {
		t.Errorf("Commit %d, Next %d", n.Commit(), n.Next())
	}
	tell(message{at: first, last: 0, commit: 0, entries: []entry{x}}, first+1)
	tell(message{at: first + 3, last: 0, commit: 99}, first+3) // the leader has dropped more
	if n.Commit() != first+3 {
		t.Errorf("Commit %d", n.Commit())
	}
	tell(message{at: first + 3, last: 1, commit: 0, entries: []entry{{2, ""}}}, first+4)
	if n.Next() != first+4 || n.termOf(first+3) != 2 {
		t.Errorf("Next %d", n.Next())
	}
}

// TestLeaderBehindFirst: a leader never sends what it has dropped, however little another one says that it has.
func TestLeaderBehindFirst(t *testing.T) {
	d, first := dropped(t)
	n := led(t, d)
	n.Tick()
	n.Receive(says(1, 0, n.Term(), message{kind: aRefusal, at: 0}))
	var got []message
	for _, m := range n.Tick() {
		if x, _ := read(m.Data); m.To == 1 {
			got = append(got, x)
		}
	}
	if len(got) == 0 || got[0].at != first || got[0].last != 0 || len(got[0].entries) != 1 {
		t.Fatalf("First %d: %d messages", first, len(got))
	}
	at := first
	for _, x := range got {
		if x.at != at {
			t.Errorf("a message begins at %d, not %d", x.at, at)
		}
		at += len(x.entries)
	}
	if at != n.Next() {
		t.Errorf("they end at %d, not %d", at, n.Next())
	}
}

// TestEmptyBehindFirst: a log that was cut to nothing behind First takes part: it votes, and is told again what it lacks.
func TestEmptyBehindFirst(t *testing.T) {
	d, first := dropped(t)
	n := opened(t, d, 0, 3)
	if n.cutTail(first) != api.OK || n.Next() != first {
		t.Fatal("cutTail")
	}
	n = opened(t, d, 0, 3)
	if n.First() != first || n.Next() != first || n.Commit() != first {
		t.Fatalf("First %d, Next %d", n.First(), n.Next())
	}
	if x := heard(t, n.Receive(says(1, 0, 5, message{kind: aRequest, last: 1, next: first}))); x.say != 1 {
		t.Error("it doesn't vote")
	}
	x := heard(t, n.Receive(says(1, 0, 5, message{kind: anAppend, serial: 1, at: first + 4, last: 1})))
	if x.kind != aRefusal || x.at != first || len(x.runs) > 0 {
		t.Fatalf("%v", x)
	}
	x = heard(t, n.Receive(says(1, 0, 5, message{kind: anAppend, at: first, last: 1, entries: entries(5)})))
	if x.kind != anAck || x.at != first+1 {
		t.Errorf("%v", x)
	}
}

// TestRefusals: a leader heeds a refusal of what it sent last, and none of what it sent ahead of the last one that it heeded.
func TestRefusals(t *testing.T) {
	n := led(t, planted(t, 6, 0, entries(1, 1, 2, 4, 4, 6)))
	sent := func() message {
		t.Helper()
		for _, m := range n.Tick() {
			if x, _ := read(m.Data); m.To == 1 {
				return x
			}
		}
		t.Fatal("nothing is sent")
		return message{}
	}
	x := sent()
	if x.at != 6 || x.last != 6 || len(x.entries) != 1 || x.serial != 0 {
		t.Fatalf("%v", x)
	}
	if x := sent(); x.at != 7 || x.last != 7 || len(x.entries) != 0 || x.serial != 1 {
		t.Fatalf("%v", x)
	}
	for _, c := range []struct {
		runs []run
		at   int
		want int
	}{
		{[]run{{3, 4}, {2, 2}, {0, 1}}, 5, 5},
		{[]run{{4, 4}, {2, 2}, {0, 1}}, 5, 5},
		{[]run{{3, 4}, {0, 1}}, 6, 5},
		{[]run{{3, 5}, {2, 2}, {0, 1}}, 6, 3},
		{[]run{{3, 3}, {1, 2}, {0, 1}}, 6, 3},
		{[]run{{2, 3}, {0, 1}}, 6, 2},
		{[]run{{1, 5}, {0, 1}}, 6, 1},
		{[]run{{4, 5}, {3, 3}, {0, 1}}, 6, 2},
		{[]run{{0, 5}}, 6, 0},
		{[]run{{0, 3}}, 6, 0},
		{[]run{{4, 5}}, 6, 4},
		{[]run{{5, 5}, {4, 3}}, 6, 4},
		{nil, 0, 0},
		{nil, 3, 3},
		{[]run{{8, 7}, {2, 6}}, 9, 6},
		{[]run{{6, 7}, {2, 6}}, 9, 7},
		{[]run{{6, 7}}, 8, 7},
	} {
		serial := n.others[1].serial
		n.Receive(says(1, 0, 7, message{kind: aRefusal, serial: serial, at: c.at, runs: c.runs}))
		x := sent()
		if x.at != c.want || x.last != n.termOf(c.want-1) || len(x.entries) != 7-c.want || x.serial != serial {
			t.Errorf("refused with %v: sent from %d, not %d, %d entries", c.runs, x.at, c.want, len(x.entries))
		}
		n.Receive(says(1, 0, 7, message{kind: aRefusal, serial: serial - 1, at: 0}))
		n.Receive(says(1, 0, 6, message{kind: aRefusal, serial: serial, at: 0}))
		n.Receive(says(2, 0, 7, message{kind: aRefusal, serial: 99, at: 0}))
		if x := sent(); x.at != 7 || len(x.entries) != 0 {
			t.Errorf("a refusal of what was sent in vain: sent from %d", x.at)
		}
	}
	n.Receive(says(1, 0, 7, message{kind: anAck, at: 4}))
	n.Receive(says(1, 0, 7, message{kind: aRefusal, serial: n.others[1].serial, at: 0}))
	if x := sent(); x.at != 4 {
		t.Errorf("refused though 4 are the same: sent from %d", x.at)
	}
	if n.Leads(); n.Term() != 7 {
		t.Error(faces(n)[:20])
	}
}

// samples are messages of each kind that a node of three takes, in its term 4.
func samples() []message {
	return []message{
		{kind: aPoll, last: 3, next: 9},
		{kind: anOpinion, say: favour},
		{kind: aRequest, last: 3, next: 9},
		{kind: aVote, say: 1},
		{kind: anAppend, serial: 3, at: 3, last: 3, commit: 2, entries: []entry{{3, "x"}, {4, ""}}},
		{kind: anAck, at: 3},
		{kind: aRefusal, serial: 1, at: 3, runs: []run{{2, 3}, {0, 1}}},
	}
}

// TestWritten: what is written is read.
func TestWritten(t *testing.T) {
	for _, x := range samples() {
		x.term = 4
		got, ok := read(x.write())
		if !ok || fmt.Sprint(got) != fmt.Sprint(x) {
			t.Errorf("%v: %v, %v", x, got, ok)
		}
	}
}

// TestSpoilt: what is no frame, or no message of this layer, or not for the node, is left without an answer and without a trace.
func TestSpoilt(t *testing.T) {
	d := planted(t, 4, -1, entries(1, 1, 3))
	n := opened(t, d, 0, 3)
	for range 6 {
		n.Tick()
	}
	before := state(n, d)
	check := func(what string, m api.Mail) {
		t.Helper()
		if mails := n.Receive(m); len(mails) > 0 || state(n, d) != before {
			t.Fatalf("%s: %v", what, mails)
		}
	}
	framed := func(items ...api.Item) api.Mail {
		b, e := wire.Encode(items)
		if e != api.OK {
			t.Fatal(e)
		}
		f, _ := frame.Put(b)
		return api.Mail{From: 1, To: 0, Data: f}
	}
	for _, x := range samples() {
		m := says(1, 0, 5, x)
		for at := range m.Data {
			for _, turn := range []byte{1, 2, 16, 128, 255} {
				m.Data[at] ^= turn
				check("spoilt", m)
				m.Data[at] ^= turn
			}
			check("cut short", api.Mail{From: 1, To: 0, Data: m.Data[:at]})
		}
		check("more behind", api.Mail{From: 1, To: 0, Data: append(slices.Clone(m.Data), 0)})
		check("twice in one", api.Mail{From: 1, To: 0, Data: append(slices.Clone(m.Data), m.Data...)})
		for _, from := range []int{math.MinInt, -1, 0, 3, 7, math.MaxInt} {
			check("from nobody", api.Mail{From: from, To: 0, Data: m.Data})
		}
		for _, to := range []int{-1, 1, 3} {
			check("for another", api.Mail{From: 1, To: to, Data: m.Data})
		}
		payload, _, _ := frame.Next(m.Data, 0)
		items, _ := wire.Decode(payload)
		for k := range items {
			if pairs := x.kind == anAppend && k > 5 || x.kind == aRefusal && k > 3; !pairs || k%2 == 1 {
				check("items left out", framed(items[:k]...))
			}
			changed := slices.Clone(items)
			changed[k] = wire.List(items[k])
			check("a list in a place", framed(changed...))
			if items[k].Kind == api.IInt {
				changed[k] = wire.Int(-1 - items[k].N)
				check("a number below 0", framed(changed...))
				changed[k] = wire.Text("")
				check("a text in a number's place", framed(changed...))
			} else {
				changed[k] = wire.Int(1)
				check("a number in a text's place", framed(changed...))
			}
		}
		check("a number more", framed(append(slices.Clone(items), wire.Int(1))...))
		check("a text more", framed(append(slices.Clone(items), wire.Text("x"))...))
		if x.kind != aRefusal {
			check("two numbers more", framed(append(slices.Clone(items), wire.Int(1), wire.Int(1))...))
		}
		if x.kind != anAppend {
			check("an entry more", framed(append(slices.Clone(items), wire.Int(1), wire.Text(""))...))
		}
	}
	append5 := []api.Item{wire.Int(anAppend), wire.Int(5), wire.Int(0), wire.Int(0), wire.Int(0), wire.Int(0)}
	for _, pair := range [][]api.Item{
		{wire.Text("")},
		{wire.Int(5)},
		{wire.Text(""), wire.Int(5)},
		{wire.Text(""), wire.Text("")},
		{wire.Int(5), wire.Int(5)},
		{wire.Int(0), wire.Text("")},
		{wire.Int(-1), wire.Text("")},
		{wire.Int(6), wire.Text("")},
		{wire.Int(5), wire.List()},
		{wire.List(wire.Int(5), wire.Text(""))},
	} {
		check("no entry", framed(append(slices.Clone(append5), pair...)...))
	}
	check("no item", framed())
	check("one item", framed(wire.Int(0)))
	check("a wrong kind", framed(wire.Int(7), wire.Int(5)))
	check("a wrong kind", framed(wire.Int(7), wire.Int(5), wire.Int(1), wire.Int(1)))
	check("a great kind", framed(wire.Int(math.MaxInt), wire.Int(5), wire.Int(1), wire.Int(1)))
	check("no bytes", api.Mail{From: 1, To: 0})
	for _, x := range []message{
		{kind: anOpinion},
		{kind: anOpinion, say: rival + 1},
		{kind: aVote, say: 2},
		{kind: aPoll, last: 6},
		{kind: aRequest, last: 6},
		{kind: anAppend, at: 3, last: 6},
		{kind: anAppend, at: 3, last: 3, entries: entries(2)},
		{kind: anAppend, at: 3, last: 3, entries: entries(4, 3)},
		{kind: anAppend, at: 3, last: 3, entries: entries(6)},
		{kind: anAppend, at: 3, last: 3, entries: []entry{{0, ""}}},
		{kind: anAppend, at: 3, last: 3, entries: []entry{{3, strings.Repeat("x", 40001)}}},
		{kind: anAppend, at: math.MaxInt, last: 3, entries: entries(3)},
	} {
		check(fmt.Sprint("what no node says: ", x), says(1, 0, 5, x))
	}
	n.Receive(says(1, 0, 5, message{kind: aPoll, last: 3, next: 3}))
	if n.Term() != 5 || state(n, d) == before {
		t.Error("a message that is one leaves no trace")
	}
}

// TestImpossible: what would take away what stays, or comes from a second leader, isn't taken.
func TestImpossible(t *testing.T) {
	d := planted(t, 4, -1, entries(1, 1, 4))
	n := opened(t, d, 0, 3)
	n.Receive(says(1, 0, 4, message{kind: anAppend, at: 3, last: 4, commit: 2}))
	before := state(n, d)
	if mails := n.Receive(says(2, 0, 4, message{kind: anAppend, at: 1, last: 1, entries: entries(4)})); len(mails) > 0 || state(n, d) != before {
		t.Errorf("an entry below Commit is replaced: %v, %s", mails, faces(n))
	}
	for from := 1; from <= 2; from++ { // it never led in that term
		for _, x := range []message{{kind: anAck, at: 3}, {kind: aRefusal, at: 3}, {kind: aVote, say: 1}} {
			if mails := n.Receive(says(from, 0, 4, x)); len(mails) > 0 || state(n, d) != before {
				t.Errorf("answers for a leader: %v, %s", mails, faces(n))
			}
		}
	}
	n = led(t, d)
	before = state(n, d)
	if mails := n.Receive(says(2, 0, n.Term(), message{kind: anAppend, at: 3, last: 4, entries: entries(5)})); len(mails) > 0 || state(n, d) != before {
		t.Errorf("a second leader: %v, %s", mails, faces(n))
	}
}

// TestAnyMessage: nothing that comes makes a node panic, or its answers fall out of form.
func TestAnyMessage(t *testing.T) {
	rng := rand.New(rand.NewSource(1))
	number := func() int {
		switch rng.Intn(12) {
		case 0:
			return math.MaxInt - rng.Intn(3)
		case 1:
			return rng.Int()
		}
		return rng.Intn(12)
	}
	for range 300 {
		d := planted(t, 6, -1, entries(1, 1, 3, 4, 4, 6))
		n := opened(t, d, 0, 3)
		for range 60 {
			x := message{kind: rng.Intn(7), last: number(), next: number(), say: number(), serial: number(), at: number(), commit: number()}
			for range rng.Intn(4) {
				if x.kind == anAppend {
					x.entries = append(x.entries, entry{number(), "e"})
				}
				if x.kind == aRefusal {
					x.runs = append(x.runs, run{number(), number()})
				}
			}
			mails := n.Receive(says(1+rng.Intn(2), 0, number(), x))
			if rng.Intn(3) == 0 {
				mails = append(mails, n.Tick()...)
			}
			if rng.Intn(9) == 0 {
				n.Propose("p")
			}
			if rng.Intn(20) == 0 {
				n.Drop(number())
			}
			for _, m := range mails {
				if y, ok := read(m.Data); !ok || y.term > n.Term() || m.From != 0 || m.To < 1 || m.To > 2 {
					t.Fatalf("behind %v: %v, %v", x, m, y)
				}
			}
			if n.Commit() < n.First() || n.Commit() > n.Next() {
				t.Fatalf("behind %v: %s", x, faces(n))
			}
		}
	}
}

// TestTermsEnd: behind the greatest term there is none that could be begun.
func TestTermsEnd(t *testing.T) {
	d := planted(t, math.MaxInt, -1, nil)
	n := opened(t, d, 0, 1)
	for range 100 {
		n.Tick()
	}
	if n.Leads() || n.Term() != math.MaxInt || n.Broken() {
		t.Error(faces(n))
	}
}

// TestSameAgain: what a node says and does hangs on what is done to it alone; asking it changes nothing, and answers share nothing with it.
func TestSameAgain(t *testing.T) {
	run := func(meddle bool) string {
		var b strings.Builder
		w := newWorld(t, 3, 5)
		for range 1500 {
			for i, x := range w.nodes {
				if meddle && x != nil {
					before := state(x, w.disks[i])
					faces(x)
					if state(x, w.disks[i]) != before {
						t.Fatal("asking a node changes it")
					}
				}
			}
			w.step(moods["all"])
			for i := range w.post {
				if meddle { // what was sent is others' own
					data := w.post[i].Data
					w.post[i].Data = slices.Clone(data)
					clear(data[:cap(data)])
				}
				fmt.Fprint(&b, w.post[i])
			}
		}
		return b.String()
	}
	first := run(false)
	if run(false) != first {
		t.Error("the same calls have other answers")
	}
	if run(true) != first {
		t.Error("asking, and writing over what was answered, changes what a node says")
	}
}

// TestOwnMemory: messages of one answer share no memory.
func TestOwnMemory(t *testing.T) {
	n := led(t, planted(t, 3, 0, entries(1, 1, 3)))
	n.Propose("abc")
	mails := n.Tick()
	if len(mails) != 2 || !slices.Equal(mails[0].Data, mails[1].Data) {
		t.Fatalf("%v", mails)
	}
	clear(mails[0].Data[:cap(mails[0].Data)])
	if _, ok := read(mails[1].Data); !ok {
		t.Error("two messages share their memory")
	}
	data := strings.Clone("abc")
	n.Propose(data)
	if got, _, _ := n.Entry(n.Next() - 1); got != data {
		t.Error(got)
	}
}
