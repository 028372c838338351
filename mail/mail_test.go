package mail

import (
	"bytes"
	"math"
	"math/rand"
	"slices"
	"strings"
	"testing"

	"millrace/api"
)

// letter is a message as the chapter has it, with its data as a text, so that it can be held against others.
type letter struct {
	from, to int
	data     string
}

func (l letter) mail() api.Mail { return api.Mail{From: l.from, To: l.to, Data: []byte(l.data)} }

func letterOf(m api.Mail) letter { return letter{m.From, m.To, string(m.Data)} }

// plain is the chapter's post to the letter: each call makes a new list.
type plain struct {
	nodes int
	row   []letter
}

// call is a call of 's' Send, 't' Take, '2' Twice, '^' Spoil, 'l' Lose.
type call struct {
	kind byte
	sent letter
	i    int // a place, or of Lose a node
	at   int
	turn byte
}

// answer is all that a call may answer.
type answer struct {
	taken letter
	n     int
	e     api.Errno
}

func send(from, to int, data string) call    { return call{kind: 's', sent: letter{from, to, data}} }
func take(i int) call                        { return call{kind: 't', i: i} }
func twice(i int) call                       { return call{kind: '2', i: i} }
func spoil(i, at int, turn byte) call        { return call{kind: '^', i: i, at: at, turn: turn} }
func lose(node int) call                     { return call{kind: 'l', i: node} }
func refusedBy(e api.Errno) answer           { return answer{e: e} }
func (m *plain) within(n int) bool           { return 0 <= n && n <= m.nodes-1 }
func (m *plain) without(i int) []letter      { return slices.Concat(m.row[:i], m.row[i+1:]) }
func (m *plain) with(l letter) []letter      { return slices.Concat(m.row, []letter{l}) }
func (m *plain) there(i int) bool            { return 0 <= i && i <= len(m.row)-1 }
func (m *plain) put(row []letter) answer     { m.row = row; return answer{} }
func turned(s string, at int, b byte) string { return s[:at] + string([]byte{s[at] ^ b}) + s[at+1:] }

func (m *plain) do(c call) answer {
	switch {
	case c.kind == 's' && (!m.within(c.sent.from) || !m.within(c.sent.to)):
		return refusedBy(api.ErrArg)
	case c.kind == 's' && len(c.sent.data) > 65536:
		return refusedBy(api.ErrLong)
	case c.kind == 's':
		return m.put(m.with(c.sent))
	case c.kind == 'l':
		var row []letter
		for _, l := range m.row {
			if l.from != c.i && l.to != c.i {
				row = append(row, l)
			}
		}
		n := len(m.row) - len(row)
		m.row = row
		return answer{n: n}
	case !m.there(c.i):
		return refusedBy(api.ErrNone)
	}
	l := m.row[c.i]
	switch c.kind {
	case 't':
		m.row = m.without(c.i)
		return answer{taken: l}
	case '2':
		return m.put(m.with(l))
	}
	if c.at < 0 || c.at > len(l.data)-1 {
		return refusedBy(api.ErrRange)
	}
	row := slices.Clone(m.row)
	row[c.i].data = turned(l.data, c.at, c.turn)
	return m.put(row)
}

func do(p *Post, c call) answer {
	switch c.kind {
	case 's':
		return answer{e: p.Send(c.sent.mail())}
	case 't':
		m, e := p.Take(c.i)
		return answer{taken: letterOf(m), e: e}
	case '2':
		return answer{e: p.Twice(c.i)}
	case '^':
		return answer{e: p.Spoil(c.i, c.at, c.turn)}
	}
	return answer{n: p.Lose(c.i)}
}

func made(t *testing.T, nodes int, calls ...call) *Post {
	t.Helper()
	p, e := New(nodes)
	if p == nil || e != api.OK {
		t.Fatalf("New(%d): %v, error %d", nodes, p, e)
	}
	allOK(t, p, calls...)
	return p
}

func allOK(t *testing.T, p *Post, calls ...call) {
	t.Helper()
	for _, c := range calls {
		if a := do(p, c); a.e != api.OK {
			t.Fatalf("%c %.80v: error %d", c.kind, c, a.e)
		}
	}
}

func all(p *Post) []letter {
	var row []letter
	for m := range p.All() {
		row = append(row, letterOf(m))
	}
	return row
}

func has(t *testing.T, what any, p *Post, want ...letter) {
	t.Helper()
	if got := all(p); !slices.Equal(got, want) {
		t.Fatalf("%v: %.200v, want %.200v", what, got, want)
	}
	if p.Len() != len(want) {
		t.Fatalf("%v: Len %d, want %d", what, p.Len(), len(want))
	}
}

// refused: the error alone, and that nothing has changed.
func refused(t *testing.T, what string, p *Post, c call, e api.Errno) {
	t.Helper()
	was := all(p)
	if a := do(p, c); a != refusedBy(e) {
		t.Errorf("%s: %c %.80v: %.80v, want error %d", what, c.kind, c, a, e)
	}
	has(t, what, p, was...)
}

var a, b, c, d = letter{0, 1, "a"}, letter{1, 2, "b"}, letter{2, 0, "cc"}, letter{1, 1, ""}

// abcd is a post of three nodes with these four messages.
func abcd(t *testing.T) *Post {
	t.Helper()
	p := made(t, 3)
	for _, l := range []letter{a, b, c, d} {
		allOK(t, p, call{kind: 's', sent: l})
	}
	return p
}

// P5.1 to P5.3: the chapter's example.
func TestExample(t *testing.T) {
	p := made(t, 3, send(0, 1, "a"), send(1, 2, "b"), twice(0))
	has(t, "doubled", p, a, b, a)
	m, e := p.Take(0)
	if e != api.OK || letterOf(m) != a {
		t.Errorf("Take(0): %v, error %d", m, e)
	}
	has(t, "taken", p, b, a)
	if n := p.Lose(2); n != 1 {
		t.Errorf("Lose(2): %d", n)
	}
	has(t, "lost", p, a)
	refused(t, "behind the end", p, take(1), api.ErrNone)
	refused(t, "no node", p, send(0, 3, "a"), api.ErrArg)
}

// P5.1: how many nodes there can be; a new post is empty.
func TestNew(t *testing.T) {
	for _, nodes := range []int{0, -1, 65, 66, 128, 256 + 1, 1<<32 + 1, math.MinInt, math.MinInt + 1, math.MaxInt} {
		if p, e := New(nodes); p != nil || e != api.ErrArg {
			t.Errorf("New(%d): %v, error %d", nodes, p, e)
		}
	}
	for nodes := 1; nodes <= 64; nodes++ {
		has(t, nodes, made(t, nodes))
	}
}

// P5.1: from each node to each, and no others.
func TestSendNodes(t *testing.T) {
	for _, nodes := range []int{1, 2, 3, 7, 8, 63, 64} {
		p := made(t, nodes)
		var want []letter
		for from := range nodes {
			for to := range nodes {
				l := letter{from, to, string([]byte{byte(from), byte(to)})}
				allOK(t, p, call{kind: 's', sent: l})
				want = append(want, l)
			}
		}
		has(t, nodes, p, want...)
		for _, no := range []int{-1, nodes, nodes + 1, math.MinInt, math.MaxInt, 1 << 32, 256} {
			for _, x := range []call{send(no, 0, "x"), send(0, no, "x"), send(no, no, "x"), send(nodes-1, no, "")} {
				if got := do(p, x); got != refusedBy(api.ErrArg) {
					t.Errorf("%d nodes: Send %d to %d: %v", nodes, x.sent.from, x.sent.to, got)
				}
			}
		}
		has(t, nodes, p, want...)
	}
}

// P5.1: the longest data, and longer ones; a wrong node is told ahead of them.
func TestSendLong(t *testing.T) {
	const most = 65536
	data := strings.Repeat("0123456789abcde\x00", most/16)
	p := made(t, 2, send(0, 1, data), send(1, 0, data[1:]), send(0, 0, ""))
	has(t, "long", p, letter{0, 1, data}, letter{1, 0, data[1:]}, letter{0, 0, ""})
	for _, more := range []int{1, 2, most, 1 << 20} {
		long := data + strings.Repeat("x", more)
		refused(t, "too long", p, send(0, 1, long), api.ErrLong)
		refused(t, "too long, from no node", p, send(2, 1, long), api.ErrArg)
		refused(t, "too long, to no node", p, send(0, -1, long), api.ErrArg)
	}
	if e := p.Send(api.Mail{From: 1, To: 1}); e != api.OK {
		t.Errorf("Data nil: error %d", e)
	}
	if m, e := p.Take(3); e != api.OK || letterOf(m) != (letter{1, 1, ""}) {
		t.Errorf("Data nil: %v, error %d", m, e)
	}
}

// P5.2: a range may end behind any message, and the next one begins at the front.
func TestAllEndsAnywhere(t *testing.T) {
	want := []letter{a, b, c, d}
	p := abcd(t)
	seq := p.All()
	for n := 1; n <= len(want)+1; n++ {
		var got []letter
		for m := range seq {
			got = append(got, letterOf(m))
			if len(got) == n {
				break
			}
		}
		if !slices.Equal(got, want[:min(n, len(want))]) {
			t.Errorf("left at %d: %v", n, got)
		}
	}
	has(t, "ranged over", p, want...)
	for range made(t, 1).All() {
		t.Error("an empty post tells something")
	}
}

// P5.2: a range begins with what is there then, not with what was there at the call of All.
func TestAllBeginsLate(t *testing.T) {
	p := made(t, 3)
	seq := p.All()
	told := func(what string, want ...letter) {
		t.Helper()
		var got []letter
		for m := range seq {
			got = append(got, letterOf(m))
		}
		if !slices.Equal(got, want) {
			t.Errorf("%s: %v, want %v", what, got, want)
		}
	}
	told("empty")
	allOK(t, p, send(0, 1, "a"), send(1, 2, "b"), send(2, 0, "cc"))
	told("sent", a, b, c)
	allOK(t, p, spoil(0, 0, 1), take(1))
	told("spoilt and taken", letter{0, 1, "`"}, c)
	allOK(t, p, twice(1), lose(1))
	told("doubled and lost", c, c)
	allOK(t, p, take(0), take(0))
	told("empty again")
}

// P5.2: what is done within a range, behind any of its messages, doesn't change what it tells.
func TestAllWhileChanged(t *testing.T) {
	want := []letter{a, b, c, d}
	changes := [][]call{
		{send(0, 0, "new"), send(0, 1, "new")}, {take(0)}, {take(3)}, {take(1), take(1)},
		{take(0), take(0), take(0), take(0), send(2, 2, "x"), send(2, 2, "y"), send(2, 2, "z")},
		{twice(0), twice(3)}, {spoil(0, 0, 255), spoil(1, 0, 255), spoil(2, 1, 255)}, {spoil(2, 0, 1), spoil(2, 1, 1)},
		{lose(0)}, {lose(1)}, {lose(2)}, {lose(0), lose(1)},
		{lose(0), send(0, 0, "x"), send(0, 0, "y"), send(0, 0, "z"), twice(0), spoil(1, 0, 9), take(0)},
	}
	for i, calls := range changes {
		for place := range want {
			p, m := abcd(t), &plain{3, want}
			var got []letter
			for x := range p.All() {
				if len(got) == place {
					for _, y := range calls {
						do(p, y)
						m.do(y)
					}
				}
				got = append(got, letterOf(x))
			}
			if !slices.Equal(got, want) {
				t.Errorf("changes %d behind message %d: %v", i, place, got)
			}
			has(t, i, p, m.row...)
		}
	}
}

// P5.2: a range within a range; each of both tells its own.
func TestAllWithinAll(t *testing.T) {
	p := abcd(t)
	var got []letter
	for x := range p.All() {
		got = append(got, letterOf(x))
		allOK(t, p, take(0))
		for y := range p.All() {
			got = append(got, letterOf(y))
		}
	}
	if want := []letter{a, b, c, d, b, c, d, c, d, d}; !slices.Equal(got, want) {
		t.Errorf("%v, want %v", got, want)
	}
}

// P5.3: from each place of rows of each length, and from no other place.
func TestTake(t *testing.T) {
	for n := range 12 {
		for i := range n {
			p, m := made(t, 1), &plain{nodes: 1}
			for x := range n {
				s := send(0, 0, strings.Repeat("x", x))
				allOK(t, p, s)
				m.do(s)
			}
			if got, want := do(p, take(i)), m.do(take(i)); got != want {
				t.Errorf("Take(%d) of %d: %v, want %v", i, n, got, want)
			}
			has(t, "taken", p, m.row...)
			allOK(t, p, send(0, 0, "behind"), twice(0))
			m.do(send(0, 0, "behind"))
			m.do(twice(0))
			has(t, "sent behind", p, m.row...)
			for range n + 1 {
				allOK(t, p, take(p.Len()/2))
			}
			has(t, "all taken", p)
		}
	}
}

// P5.3: no message at a place; then no byte at a place. Nothing is changed.
func TestNoPlace(t *testing.T) {
	var none []int
	for _, far := range []int{math.MinInt, math.MinInt + 1, -1 << 32, -2, -1, 1 << 32, math.MaxInt - 1, math.MaxInt} {
		none = append(none, far)
	}
	full, empty := abcd(t), made(t, 3)
	for _, i := range append(none, 4, 5) {
		for _, x := range []call{take(i), twice(i), spoil(i, 0, 1), spoil(i, -1, 1), spoil(i, 9, 0)} {
			refused(t, "no message", full, x, api.ErrNone)
		}
	}
	for _, i := range append(none, 0, 1) {
		for _, x := range []call{take(i), twice(i), spoil(i, 0, 1), spoil(i, -1, 1)} {
			refused(t, "an empty post", empty, x, api.ErrNone)
		}
	}
	for i, l := range []letter{a, b, c, d} {
		for _, at := range append(none, len(l.data), len(l.data)+1) {
			refused(t, "no byte", full, spoil(i, at, 1), api.ErrRange)
			refused(t, "no byte, not turned", full, spoil(i, at, 0), api.ErrRange)
		}
	}
}

// P5.3: the copy is like the first one in all, is the last one, and is spoilt alone.
func TestTwice(t *testing.T) {
	p := abcd(t)
	allOK(t, p, twice(2), twice(1), twice(3), twice(4))
	has(t, "doubled", p, a, b, c, d, c, b, d, c)
	allOK(t, p, spoil(2, 0, 1))
	has(t, "the first one spoilt", p, a, b, letter{2, 0, "bc"}, d, c, b, d, c)
	allOK(t, p, spoil(4, 1, 1))
	has(t, "the copy spoilt", p, a, b, letter{2, 0, "bc"}, d, letter{2, 0, "cb"}, b, d, c)
	allOK(t, p, twice(2), take(2))
	has(t, "a spoilt one doubled", p, a, b, d, letter{2, 0, "cb"}, b, d, c, letter{2, 0, "bc"})
}

// P5.3: each byte at each place of some data, by each turn; the same turn again mends it.
func TestSpoil(t *testing.T) {
	data := "\x00\x01\x7f\x80\xffmid\xfe"
	for at := range len(data) {
		for turn := range 256 {
			p := made(t, 2, send(1, 0, data), send(0, 1, data), send(1, 1, data))
			allOK(t, p, spoil(1, at, byte(turn)))
			want := turned(data, at, byte(turn))
			has(t, "spoilt", p, letter{1, 0, data}, letter{0, 1, want}, letter{1, 1, data})
			allOK(t, p, spoil(1, at, byte(turn)))
			has(t, "mended", p, letter{1, 0, data}, letter{0, 1, data}, letter{1, 1, data})
		}
	}
	long := strings.Repeat("long", 1<<14)
	p := made(t, 1, send(0, 0, long), spoil(0, len(long)-1, 3))
	has(t, "the last byte of the longest", p, letter{0, 0, turned(long, len(long)-1, 3)})
}

// P5.3: of each node, and of none.
func TestLose(t *testing.T) {
	row := []letter{a, b, c, d}
	behind := map[int][]letter{0: {b, d}, 1: {c}, 2: {a, d}}
	for _, node := range []int{0, 1, 2, -1, 3, 64, 256, math.MinInt, math.MaxInt, 1 << 32} {
		want, lost := row, 0
		if stay, ok := behind[node]; ok {
			want, lost = stay, len(row)-len(stay)
		}
		p := abcd(t)
		if n := p.Lose(node); n != lost {
			t.Errorf("Lose(%d): %d, want %d", node, n, lost)
		}
		has(t, node, p, want...)
		if n := p.Lose(node); n != 0 {
			t.Errorf("Lose(%d) again: %d", node, n)
		}
		allOK(t, p, send(2, 2, "behind"))
		has(t, node, p, slices.Concat(want, []letter{{2, 2, "behind"}})...)
	}
	p := abcd(t)
	if n := p.Lose(0) + p.Lose(1); n != 4 {
		t.Errorf("nodes 0 and 1: %d", n)
	}
	has(t, "all lost", p)
	if n := made(t, 3).Lose(0); n != 0 {
		t.Errorf("an empty post: %d", n)
	}
}

// P5.4: a nil post, whatever it is asked.
func TestNilPost(t *testing.T) {
	var p *Post
	for _, x := range []call{
		send(0, 0, "x"), send(-1, 99, ""), send(0, 0, strings.Repeat("x", 1<<17)),
		take(0), take(-1), twice(0), twice(math.MaxInt), spoil(0, 0, 1), spoil(-1, -1, 0),
	} {
		if got := do(p, x); got != refusedBy(api.ErrState) {
			t.Errorf("%c: %v", x.kind, got)
		}
	}
	if m, _ := p.Take(0); m.Data != nil {
		t.Errorf("Take: Data %v", m.Data)
	}
	if p.Len() != 0 || p.Lose(0) != 0 || p.Lose(-1) != 0 {
		t.Error("Len or Lose isn't 0")
	}
	if p.All() == nil {
		t.Fatal("no iterator")
	}
	has(t, "a nil post", p)
}

// P5.4: what is handed in is neither changed nor kept, nor is the room behind it.
func TestHandedIn(t *testing.T) {
	whole := []byte("data, room")
	p := made(t, 2)
	for range 3 {
		if e := p.Send(api.Mail{From: 0, To: 1, Data: whole[:4]}); e != api.OK {
			t.Fatalf("error %d", e)
		}
	}
	allOK(t, p, spoil(0, 0, 1), twice(0), twice(1), take(2), lose(9))
	for m := range p.All() {
		_ = append(m.Data, "more than there was"...)
	}
	if string(whole) != "data, room" {
		t.Errorf("changed: %q", whole)
	}
	copy(whole, "XXXXXXXXXX")
	has(t, "changed behind Send", p, letter{0, 1, "eata"}, letter{0, 1, "data"}, letter{0, 1, "eata"}, letter{0, 1, "data"})
}

// P5.4: what one does with an answer changes no message, no copy of one, and no other answer.
func TestAnswersAreNew(t *testing.T) {
	row := []letter{{0, 1, "data"}, {1, 0, "data"}, {0, 1, "data"}}
	p := made(t, 2, send(0, 1, "data"), send(1, 0, "data"), twice(0))
	var told []api.Mail
	for range 2 {
		for m := range p.All() {
			told = append(told, m)
		}
	}
	taken, e := p.Take(0)
	if e != api.OK {
		t.Fatalf("error %d", e)
	}
	answers := append(told, taken)
	for i := range answers {
		for k, x := range answers {
			if want := "data"; k >= i && string(x.Data) != want {
				t.Errorf("answer %d was changed by those ahead of it: %q", k, x.Data)
			}
		}
		room := answers[i].Data[:cap(answers[i].Data)]
		for k := range room {
			room[k] = '!'
		}
	}
	has(t, "answers changed", p, row[1:]...)
	allOK(t, p, spoil(1, 0, 1))
	for _, x := range answers {
		if !bytes.Equal(x.Data, []byte("!!!!")) {
			t.Errorf("an answer was changed by Spoil: %q", x.Data)
		}
	}
}

// P5.4: two posts have nothing in common.
func TestTwoPosts(t *testing.T) {
	p, q := abcd(t), abcd(t)
	allOK(t, p, spoil(0, 0, 1), take(1), twice(0), lose(2))
	has(t, "the other post", q, a, b, c, d)
	has(t, "a new post", made(t, 3))
}

// P5.1 to P5.4: all rows of four calls among these, some of which are refused.
func TestAllShortRows(t *testing.T) {
	calls := []call{
		send(0, 1, "a"), send(1, 1, "bc"), send(2, 0, ""), send(3, 0, "x"),
		take(0), take(1), take(-1), twice(0), twice(1), spoil(0, 0, 3), spoil(1, 1, 255), lose(0), lose(1), lose(2),
	}
	var over func(done []call)
	over = func(done []call) {
		if len(done) < 4 {
			for _, x := range calls {
				over(append(done, x))
			}
			return
		}
		sameRun(t, done)
	}
	over(nil)
}

func sameRun(t *testing.T, calls []call) {
	t.Helper()
	p, m := made(t, 3), &plain{nodes: 3}
	for _, x := range calls {
		if got, want := do(p, x), m.do(x); got != want {
			t.Fatalf("%.200v: %v, want %v", calls, got, want)
		}
	}
	has(t, calls, p, m.row...)
}

// P5.1 to P5.4: long rows of calls, with posts that grow and become empty, held against the plain post at each call.
func TestLongRows(t *testing.T) {
	r := rand.New(rand.NewSource(5))
	for range 60 {
		nodes := 1 + r.Intn(5)
		p, m := made(t, nodes), &plain{nodes: nodes}
		grow := 1 + r.Intn(6)
		for range 400 {
			x := anyCall(r, nodes, len(m.row), grow)
			if got, want := do(p, x), m.do(x); got != want {
				t.Fatalf("%c %v: %v, want %v", x.kind, x, got, want)
			}
			has(t, x, p, m.row...)
		}
	}
}

// anyCall goes to places that are there mostly, and to those just beside them.
func anyCall(r *rand.Rand, nodes, n, grow int) call {
	node := func() int { return r.Intn(nodes*8+2)/8 - r.Intn(16)/15 }
	i := r.Intn(n+1) - r.Intn(12)/11
	switch k := r.Intn(10 + grow); {
	case k < grow:
		data := make([]byte, r.Intn(6))
		r.Read(data)
		return send(node(), node(), string(data))
	case k < grow+3:
		return take(i)
	case k < grow+4:
		return take(0)
	case k < grow+6:
		return twice(i)
	case k < grow+9 || r.Intn(4) > 0:
		return spoil(i, r.Intn(7)-1, byte(r.Intn(256)))
	}
	return lose(node())
}

// P1, P5.3: a great many are taken at the front, while others are sent; with each of them going past all others this wouldn't end in time.
func TestManyAtTheFront(t *testing.T) {
	const many = 1 << 18
	p := made(t, 2)
	number := func(n int) string { return string([]byte{byte(n), byte(n >> 8), byte(n >> 16)}) }
	for n := range many {
		allOK(t, p, send(n&1, 1, number(n)))
	}
	for n := range 2 * many {
		m, e := p.Take(0)
		if e != api.OK || letterOf(m) != (letter{n & 1, 1, number(n)}) {
			t.Fatalf("message %d: %v, error %d", n, m, e)
		}
		if n < many {
			allOK(t, p, send(n&1, 1, number(many+n)))
		}
	}
	has(t, "all taken", p)
}
