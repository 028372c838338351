package seglog

import (
	"encoding/binary"
	"fmt"
	"hash/crc32"
	"iter"
	"maps"
	"math"
	"math/rand"
	"slices"
	"strconv"
	"strings"
	"testing"

	"millrace/api"
	"millrace/disk"
)

// plain is the chapter's log to the letter: it has nothing but its files, and looks them through at each call.
type plain struct {
	name         string
	room         int
	now, durable map[string]string
	pending      map[string]int // changes that aren't durable, by file
}

// plainSegment is a segment as its file tells it: whole says how many bytes its frames have.
type plainSegment struct {
	file    string
	base    int
	entries []string
	whole   int
}

func plainFrame(s string) string {
	sum := func(s string) uint32 { return crc32.Checksum([]byte(s), crc32.MakeTable(crc32.Castagnoli)) }
	f := string(binary.LittleEndian.AppendUint32(nil, uint32(len(s))))
	f += string(binary.LittleEndian.AppendUint32(nil, sum(f)))
	return f + s + string(binary.LittleEndian.AppendUint32(nil, sum(s)))
}

// plainCut takes the frames of b from the front, each held against the one that its payload makes.
func plainCut(b string) ([]string, int) {
	var all []string
	at := 0
	for len(b)-at >= 12 {
		n := int(binary.LittleEndian.Uint32([]byte(b[at:])))
		if n > 65536 || n > len(b)-at-12 || b[at:at+12+n] != plainFrame(b[at+8:at+8+n]) {
			break
		}
		all = append(all, b[at+8:at+8+n])
		at += 12 + n
	}
	return all, at
}

func plainBase(name, file string) (int, bool) {
	digits, ours := strings.CutPrefix(file, name+"-")
	base, err := strconv.Atoi(digits)
	return base, ours && err == nil && base >= 0 && base <= 1<<62 && strconv.Itoa(base) == digits
}

func (m *plain) segments() []plainSegment {
	var all []plainSegment
	for file, b := range m.now {
		if base, is := plainBase(m.name, file); is {
			entries, whole := plainCut(b)
			all = append(all, plainSegment{file, base, entries, whole})
		}
	}
	slices.SortFunc(all, func(a, b plainSegment) int { return a.base - b.base })
	return all
}

func (s plainSegment) next() int { return s.base + len(s.entries) }

func (m *plain) change(file, b string) {
	m.now[file] = b
	m.pending[file]++
}

func (m *plain) remove(file string) {
	delete(m.now, file)
	m.pending[file]++
	m.sync(file)
}

func (m *plain) sync(file string) {
	delete(m.pending, file)
	delete(m.durable, file)
	if b, is := m.now[file]; is {
		m.durable[file] = b
	}
}

// repair tells how many files it cut or removed.
func (m *plain) repair() int {
	n, bad := 0, false
	next := -1
	for _, s := range m.segments() {
		bad = bad || next >= 0 && s.base != next
		next = s.next()
		if bad {
			m.remove(s.file)
			n++
			continue
		}
		if s.whole < len(m.now[s.file]) {
			m.change(s.file, m.now[s.file][:s.whole])
			m.sync(s.file)
			bad = true
			n++
		}
	}
	return n
}

func (m *plain) first() int {
	if all := m.segments(); len(all) > 0 {
		return all[0].base
	}
	return 0
}

func (m *plain) entries() []string {
	var all []string
	for _, s := range m.segments() {
		all = append(all, s.entries...)
	}
	return all
}

func (m *plain) next() int { return m.first() + len(m.entries()) }

func (m *plain) append(entry string) int {
	at, file := m.next(), m.name+"-0"
	if all := m.segments(); len(all) > 0 {
		last := all[len(all)-1]
		file = last.file
		if last.whole >= m.room {
			m.sync(file)
			file = m.name + "-" + strconv.Itoa(at)
		}
	}
	m.change(file, m.now[file]+plainFrame(entry))
	return at
}

func (m *plain) syncAll() {
	for _, s := range m.segments() {
		m.sync(s.file)
	}
}

func (m *plain) has(at int) bool { return at >= m.first() && at <= m.next() }

func (m *plain) cutTail(at int) api.Errno {
	if !m.has(at) {
		return api.ErrNone
	}
	for i, s := range m.segments() {
		switch {
		case i > 0 && s.base >= at:
			m.remove(s.file)
		case at < s.next():
			left := ""
			for _, x := range s.entries[:at-s.base] {
				left += plainFrame(x)
			}
			m.change(s.file, left)
			m.sync(s.file)
		}
	}
	return api.OK
}

func (m *plain) cutHead(at int) api.Errno {
	if !m.has(at) {
		return api.ErrNone
	}
	m.syncAll()
	all := m.segments()
	for i, s := range all {
		if s.next() <= at && i < len(all)-1 {
			m.remove(s.file)
		}
	}
	return api.OK
}

// pair is a log and the plain one, whose calls are held against each other.
type pair struct {
	t    *testing.T
	row  []string // the calls until now, for what is told of an error
	d    *disk.Disk
	l    *Log
	m    *plain
	kept int      // so many entries from First on stand behind any crash
	all  []string // the log's entries
}

func newDisk(t *testing.T, files map[string]string) *disk.Disk {
	t.Helper()
	d, e := disk.New(1 << 20)
	if e != api.OK {
		t.Fatalf("disk.New: error %d", e)
	}
	for _, file := range slices.Sorted(maps.Keys(files)) {
		if e := d.Write(file, 0, []byte(files[file])); e != api.OK {
			t.Fatalf("writing %s: error %d", file, e)
		}
		d.Sync(file)
	}
	return d
}

func newPair(t *testing.T, name string, room int, files map[string]string) *pair {
	t.Helper()
	p := &pair{t: t, d: newDisk(t, files), m: &plain{name, room, nil, nil, nil}}
	p.look()
	p.open(room)
	return p
}

func (p *pair) failed(text string, args ...any) {
	p.t.Helper()
	p.t.Fatalf("%s: %s", strings.Join(p.row, ", "), fmt.Sprintf(text, args...))
}

func filesOf(names []string, read func(string) ([]byte, bool)) map[string]string {
	all := map[string]string{}
	for _, file := range names {
		if b, is := read(file); is {
			all[file] = string(b)
		}
	}
	return all
}

// look takes the plain log's files from a disk all of whose files are durable.
func (p *pair) look() {
	p.m.now = filesOf(p.d.Names(), p.d.Read)
	p.m.durable = maps.Clone(p.m.now)
	p.m.pending = map[string]int{}
}

func (p *pair) open(room int) {
	p.t.Helper()
	p.row = append(p.row, fmt.Sprintf("Open(%q, %d)", p.m.name, room))
	l, e := Open(p.d, p.m.name, room)
	if e != api.OK || l == nil {
		p.failed("error %d", e)
	}
	p.l, p.m.room = l, room
	p.m.repair()
	p.all = p.m.entries()
	p.same()
}

// same: the files, what of them is durable, and all that the log tells.
func (p *pair) same() {
	p.t.Helper()
	now, durable := filesOf(p.d.Names(), p.d.Read), filesOf(p.d.Names(), p.d.Durable)
	if !maps.Equal(now, p.m.now) {
		p.failed("the files are %q, want %q", now, p.m.now)
	}
	for file, b := range p.m.durable {
		if is, _ := p.d.Durable(file); string(is) != b {
			p.failed("durable of %s is %q, want %q", file, is, b)
		}
	}
	pending := 0
	for _, n := range p.m.pending {
		pending += n
	}
	if len(durable) != len(p.m.durable) || p.d.Pending() != pending {
		p.failed("%d files durable, %d changes not, want %d, %d", len(durable), p.d.Pending(), len(p.m.durable), pending)
	}
	p.tells(p.m.first(), p.all)
}

// tells: First, Next, Read and All, with offsets on both sides of what is there.
func (p *pair) tells(first int, entries []string) {
	p.t.Helper()
	next := first + len(entries)
	if p.l.First() != first || p.l.Next() != next {
		p.failed("First %d, Next %d, want %d, %d", p.l.First(), p.l.Next(), first, next)
	}
	for i, want := range entries {
		if b, e := p.l.Read(first + i); string(b) != want || e != api.OK {
			p.failed("Read(%d) = %q, %d, want %q", first+i, b, e, want)
		}
	}
	for _, at := range []int{math.MinInt, -1, first - 1, next, next + 1, math.MaxInt} {
		if b, e := p.l.Read(at); b != nil || e != api.ErrNone {
			p.failed("Read(%d) = %q, %d, want ErrNone", at, b, e)
		}
	}
	for _, from := range []int{math.MinInt, -1, first - 1, first, first + 1, first + 2, next - 2, next - 1, next, next + 1, math.MaxInt} {
		skip := min(max(from, first), next) - first
		at := first + skip
		var got []string
		for i, b := range p.l.All(from) {
			if i != at {
				p.failed("All(%d) tells of %d, want %d", from, i, at)
			}
			at++
			got = append(got, string(b))
		}
		if !slices.Equal(got, entries[skip:]) {
			p.failed("All(%d): %q, want %q", from, got, entries[skip:])
		}
	}
}

func (p *pair) append(entry string) {
	p.t.Helper()
	p.row = append(p.row, fmt.Sprintf("Append(%.20q)", entry))
	at, e := p.l.Append([]byte(entry))
	segments := len(p.m.segments())
	if want := p.m.append(entry); at != want || e != api.OK {
		p.failed("%d, error %d, want %d", at, e, want)
	}
	if len(p.m.segments()) > segments {
		p.kept = max(p.kept, len(p.all))
	}
	p.all = append(p.all, entry)
	p.same()
}

func (p *pair) sync() {
	p.t.Helper()
	p.row = append(p.row, "Sync")
	if e := p.l.Sync(); e != api.OK {
		p.failed("error %d", e)
	}
	p.m.syncAll()
	p.kept = len(p.all)
	p.same()
}

func (p *pair) cutTail(at int) {
	p.t.Helper()
	p.row = append(p.row, fmt.Sprintf("CutTail(%d)", at))
	want := p.m.cutTail(at)
	if e := p.l.CutTail(at); e != want {
		p.failed("error %d, want %d", e, want)
	}
	if want == api.OK {
		p.all = p.all[:at-p.m.first()]
		p.kept = min(p.kept, len(p.all))
	}
	p.same()
}

func (p *pair) cutHead(at int) {
	p.t.Helper()
	p.row = append(p.row, fmt.Sprintf("CutHead(%d)", at))
	was := p.m.first()
	want := p.m.cutHead(at)
	if e := p.l.CutHead(at); e != want {
		p.failed("error %d, want %d", e, want)
	}
	if want == api.OK {
		p.all = p.all[p.m.first()-was:]
		p.kept = len(p.all)
	}
	p.same()
}

// crash holds what is there behind it against what was synced and what was appended: P6.5.
func (p *pair) crash(picks []int, room int) {
	p.t.Helper()
	p.row = append(p.row, fmt.Sprintf("Crash(%v)", picks))
	had, first := p.all, p.m.first()
	p.d.Crash(picks)
	p.look()
	p.open(room)
	n := len(p.all)
	if n < p.kept || n > len(had) || !slices.Equal(p.all, had[:n]) || n > 0 && p.m.first() != first {
		p.failed("from %d on %q, want %d of %q from %d on, or more", p.m.first(), p.all, p.kept, had, first)
	}
	p.kept = n
}

func text(n int) string { return strings.Repeat("m", n) }

// The chapter's example 1.
func TestExample(t *testing.T) {
	p := newPair(t, "log", 20, nil)
	for i, entry := range []string{"abc", "d", "e"} {
		if at, e := p.l.Append([]byte(entry)); at != i || e != api.OK {
			t.Errorf("Append(%q) = %d, %d", entry, at, e)
		}
	}
	want := map[string]string{"log-0": plainFrame("abc") + plainFrame("d"), "log-2": plainFrame("e")}
	if len(want["log-0"]) != 28 || len(want["log-2"]) != 13 {
		t.Fatalf("the test's own frames are wrong: %q", want)
	}
	if got := filesOf(p.d.Names(), p.d.Read); !maps.Equal(got, want) {
		t.Errorf("files %q, want %q", got, want)
	}
	if e := p.l.CutHead(2); e != api.OK || p.l.First() != 2 || p.l.Next() != 3 || !slices.Equal(p.d.Names(), []string{"log-2"}) {
		t.Errorf("CutHead(2): %d; %d to %d, %q", e, p.l.First(), p.l.Next(), p.d.Names())
	}
	if e := p.l.CutTail(2); e != api.OK || p.l.First() != 2 || p.l.Next() != 2 || !slices.Equal(p.d.Names(), []string{"log-2"}) {
		t.Errorf("CutTail(2): %d; %d to %d, %q", e, p.l.First(), p.l.Next(), p.d.Names())
	}
	if b, is := p.d.Durable("log-2"); len(b) != 0 || !is || p.d.Used() != 0 {
		t.Errorf("log-2 is %q, %v", b, is)
	}
}

// P6.1: what Open refuses, and that the first error is answered.
func TestOpenRefuses(t *testing.T) {
	d := newDisk(t, map[string]string{"log-0": "spoilt"})
	for _, c := range []struct {
		d    *disk.Disk
		name string
		room int
		want api.Errno
	}{
		{nil, "log", 20, api.ErrState},
		{nil, "", 0, api.ErrState},
		{d, "", 20, api.ErrArg},
		{d, text(13), 20, api.ErrArg},
		{d, text(100000), 20, api.ErrArg},
		{d, "Log", 20, api.ErrArg},
		{d, "log1", 20, api.ErrArg},
		{d, "lo-g", 20, api.ErrArg},
		{d, "log-", 20, api.ErrArg},
		{d, "lög", 20, api.ErrArg},
		{d, "lo`g", 20, api.ErrArg},
		{d, "lo{g", 20, api.ErrArg},
		{d, "log\x00", 20, api.ErrArg},
		{d, "log", 0, api.ErrArg},
		{d, "log", -1, api.ErrArg},
		{d, "log", math.MinInt, api.ErrArg},
		{d, "log", 1<<20 + 1, api.ErrArg},
		{d, "log", math.MaxInt, api.ErrArg},
	} {
		if l, e := Open(c.d, c.name, c.room); l != nil || e != c.want {
			t.Errorf("Open(%.20q, %d): %v, error %d, want %d", c.name, c.room, l, e, c.want)
		}
	}
	d.Fail(true)
	if l, e := Open(d, "Log", 20); l != nil || e != api.ErrArg {
		t.Errorf("Open of a wrong name on a disk that fails: %v, error %d", l, e)
	}
	if b, _ := d.Read("log-0"); string(b) != "spoilt" || d.Pending() != 0 {
		t.Errorf("a refused Open left %q", b)
	}
}

// P6.1: names and rooms at their edges.
func TestOpenEdges(t *testing.T) {
	for _, name := range []string{"a", "z", "az", text(12)} {
		for _, room := range []int{1, 2, 1 << 20} {
			p := newPair(t, name, room, nil)
			p.append("x")
			p.append("y")
			p.sync()
			p.crash(nil, room)
			if p.l.Next() != 2 {
				t.Errorf("%s, room %d: Next %d", name, room, p.l.Next())
			}
		}
	}
}

// P6.1: on an empty disk Open makes nothing, and the log is empty.
func TestOpenOfNothing(t *testing.T) {
	p := newPair(t, "log", 20, nil)
	if p.d.Pending() != 0 || len(p.d.Names()) != 0 {
		t.Errorf("Open made %q", p.d.Names())
	}
	p.sync()
	p.cutTail(0)
	p.cutHead(0)
	p.cutTail(1)
	p.cutHead(1)
	p.cutTail(-1)
	p.cutHead(-1)
	p.append("")
}

// planted goes through disks with up to four segments that fit one another, or don't, whole, torn, empty or spoilt.
func planted() iter.Seq[map[string]string] {
	a, b := plainFrame("a"), plainFrame("bc")
	contents := []string{"-", "", a, a + b, a + b[:7], a + "spoilt" + b, a[:12], a + b + a}
	names := []string{"log-0", "log-1", "log-2", "log-3"}
	return func(yield func(map[string]string) bool) {
		rows := 1
		for range names {
			rows *= len(contents)
		}
		for row := range rows {
			files := map[string]string{}
			for _, name := range names {
				if c := contents[row%len(contents)]; c != "-" {
					files[name] = c
				}
				row /= len(contents)
			}
			if !yield(files) {
				return
			}
		}
	}
}

// P6.1: the repair: what is cut, what is removed, what stands, and that all of it is durable.
func TestRepair(t *testing.T) {
	for files := range planted() {
		p := newPair(t, "log", 20, files)
		if p.d.Pending() != 0 {
			t.Fatalf("%q: %d changes aren't durable", files, p.d.Pending())
		}
		p.append("new")
		p.crash(nil, 20)
	}
}

// P6.1: what is repaired is synced, even if it was never durable; the rest isn't.
func TestRepairSyncs(t *testing.T) {
	a := plainFrame("a")
	for _, c := range []struct {
		files   map[string]string
		durable map[string]string
	}{
		{map[string]string{"log-0": a + a, "log-2": a}, map[string]string{}},
		{map[string]string{"log-0": a + a, "log-2": a + "x", "log-3": a}, map[string]string{"log-2": a}},
		{map[string]string{"log-0": a + a, "log-3": a, "log-4": a}, map[string]string{}},
		{map[string]string{"log-0": "x"}, map[string]string{"log-0": ""}},
	} {
		d := newDisk(t, nil)
		for file, b := range c.files {
			d.Write(file, 0, []byte(b))
		}
		if _, e := Open(d, "log", 20); e != api.OK {
			t.Fatalf("%q: error %d", c.files, e)
		}
		if got := filesOf(d.Names(), d.Durable); !maps.Equal(got, c.durable) {
			t.Errorf("%q: durable is %q, want %q", c.files, got, c.durable)
		}
		d.Crash(nil)
		if got := filesOf(d.Names(), d.Read); !maps.Equal(got, c.durable) {
			t.Errorf("%q: behind a crash %q, want %q", c.files, got, c.durable)
		}
	}
}

// P6.1: a disk that fails refuses a repair, and nothing else in Open; then it is as it was.
func TestRepairRefused(t *testing.T) {
	for files := range planted() {
		d := newDisk(t, files)
		m := &plain{"log", 20, maps.Clone(files), map[string]string{}, map[string]int{}}
		want := api.OK
		if m.repair() > 0 {
			want = api.ErrFault
		}
		d.Fail(true)
		l, e := Open(d, "log", 20)
		if e != want || (l == nil) != (want != api.OK) {
			t.Fatalf("%q: %v, error %d, want %d", files, l, e, want)
		}
		if got := filesOf(d.Names(), d.Read); e != api.OK && !maps.Equal(got, files) {
			t.Fatalf("%q: a refused repair left %q", files, got)
		}
		if e == api.OK && l.Next() != m.next() {
			t.Fatalf("%q: Next %d, want %d", files, l.Next(), m.next())
		}
	}
}

func strangers() map[string]string {
	files := map[string]string{}
	for i, file := range []string{
		"log", "log-", "log-a", "log-b", "log-00", "log-01", "log-0a", "log-a0", "log--0", "log--1", "log-0-0", "log-1-", "log-1x",
		"logs-0", "lo-0", "l-og-0", "g-0", "a-log-0", "0", "-0",
		"log-4611686018427387905", "log-4611686018427387910", "log-5611686018427387904", "log-9223372036854775807", "log-9223372036854775808",
		"log-18446744073709551616", "log-18446744073709551617", "log-46116860184273879040", "log-9999999999999999999999999999",
	} {
		files[file] = plainFrame("stranger") + text(i)
	}
	return files
}

// P6.1: files that are named otherwise are no segments: they count nothing, and nothing is done to them.
func TestStrangers(t *testing.T) {
	p := newPair(t, "log", 20, strangers())
	p.tells(0, nil)
	for i := range 12 {
		p.append(text(i))
	}
	p.sync()
	p.cutHead(3)
	p.cutTail(7)
	p.crash(nil, 20)
	p.cutTail(p.l.First())
	now := filesOf(p.d.Names(), p.d.Read)
	for file, b := range strangers() {
		if now[file] != b {
			t.Errorf("%s is %q, want %q", file, now[file], b)
		}
	}
	if len(now) != len(strangers())+1 {
		t.Errorf("files %q", p.d.Names())
	}
}

// P6.1: two logs on one disk, of which one's name begins as the other's, know nothing of each other.
func TestTwoLogs(t *testing.T) {
	d := newDisk(t, nil)
	a, _ := Open(d, "a", 1)
	ab, _ := Open(d, "ab", 1)
	for range 3 {
		a.Append([]byte("a"))
		ab.Append([]byte("ab"))
		ab.Append([]byte("ab"))
	}
	a.CutTail(1)
	a.CutHead(1)
	if ab.Sync() != api.OK || a.Sync() != api.OK {
		t.Error("Sync refused")
	}
	d.Crash(nil)
	a, _ = Open(d, "a", 1)
	ab, _ = Open(d, "ab", 1)
	if a.First() != 0 || a.Next() != 1 || ab.First() != 0 || ab.Next() != 6 {
		t.Errorf("%d to %d, %d to %d", a.First(), a.Next(), ab.First(), ab.Next())
	}
	if b, _ := ab.Read(5); string(b) != "ab" {
		t.Errorf("%q", b)
	}
}

// P6.1: segments go by their number, not by their name: log-10 stands behind log-9 and log-2.
func TestManySegments(t *testing.T) {
	p := newPair(t, "log", 1, nil)
	for i := range 121 {
		p.append(strconv.Itoa(i))
	}
	p.sync()
	p.crash(nil, 1)
	if p.l.Next() != 121 || len(p.d.Names()) != 121 {
		t.Errorf("Next %d, %d files", p.l.Next(), len(p.d.Names()))
	}
	p.cutTail(110)
	p.cutHead(99)
	p.append("behind")
	p.crash([]int{100}, 1)
	p.tells(99, []string{"99", "100", "101", "102", "103", "104", "105", "106", "107", "108", "109", "behind"})
}

// P6.1: the greatest B. None begins above it: Open would find no such segment (P6.5).
func TestGreatestBase(t *testing.T) {
	const greatest = "log-4611686018427387904"
	p := newPair(t, "log", 1, map[string]string{greatest: plainFrame("a") + plainFrame("b") + "torn"})
	p.tells(1<<62, []string{"a", "b"})
	p.cutTail(1 << 62)
	for i := range 3 {
		if at, e := p.l.Append([]byte{'c' + byte(i)}); at != 1<<62+i || e != api.OK {
			t.Errorf("Append: %d, %d", at, e)
		}
	}
	if e := p.l.Sync(); e != api.OK {
		t.Errorf("Sync: %d", e)
	}
	p.d.Crash(nil)
	l, e := Open(p.d, "log", 1)
	if e != api.OK || l.First() != 1<<62 || l.Next() != 1<<62+3 {
		t.Fatalf("%d to %d, error %d", l.First(), l.Next(), e)
	}
	if b, e := l.Read(1<<62 + 2); string(b) != "e" || e != api.OK {
		t.Errorf("%q, %d", b, e)
	}
	if got := p.d.Names(); !slices.Equal(got, []string{greatest}) {
		t.Errorf("files %q", got)
	}

	p = newPair(t, "log", 1, map[string]string{"log-4611686018427387903": plainFrame("a")})
	p.append("b")
	if got := p.d.Names(); !slices.Equal(got, []string{"log-4611686018427387903", greatest}) {
		t.Errorf("files %q", got)
	}
}

// P6.1: a room other than last time is that of the segments from now on.
func TestOtherRoom(t *testing.T) {
	p := newPair(t, "log", 100, nil)
	for i := range 5 {
		p.append(text(i))
	}
	p.open(20)
	p.append("a")
	p.append("b")
	p.open(1000)
	p.append("c")
	p.append("d")
	p.sync()
	p.crash(nil, 1)
	p.append("e")
	p.append("f")
	if got := p.d.Names(); !slices.Equal(got, []string{"log-0", "log-10", "log-5", "log-9"}) {
		t.Errorf("files %q", got)
	}
}

// P6.2: a new segment begins when the last one has as many bytes as Room, neither earlier nor later; the one ahead is durable then.
func TestNewSegment(t *testing.T) {
	for _, c := range []struct {
		room  int
		files []string
	}{
		{12, []string{"log-0", "log-1", "log-2"}},
		{13, []string{"log-0", "log-1", "log-2"}},
		{14, []string{"log-0", "log-2"}},
		{26, []string{"log-0", "log-2"}},
		{27, []string{"log-0"}},
	} {
		p := newPair(t, "log", c.room, nil)
		for range 3 {
			p.append("x")
		}
		if got := p.d.Names(); !slices.Equal(got, c.files) {
			t.Errorf("room %d: files %q, want %q", c.room, got, c.files)
		}
		last := len(c.files) - 1
		for i, file := range c.files {
			if _, durable := p.d.Durable(file); durable != (i < last) {
				t.Errorf("room %d: %s durable: %v", c.room, file, durable)
			}
		}
	}
}

// P6.2: the greatest entry, and one byte more.
func TestLongEntries(t *testing.T) {
	p := newPair(t, "log", 20, nil)
	if at, e := p.l.Append(make([]byte, api.MaxFrame+1)); at != 0 || e != api.ErrLong {
		t.Errorf("an entry too long: %d, error %d", at, e)
	}
	if len(p.d.Names()) != 0 || p.d.Pending() != 0 || p.l.Next() != 0 {
		t.Errorf("a refused entry left %q", p.d.Names())
	}
	p.append(text(api.MaxFrame))
	if at, e := p.l.Append(make([]byte, api.MaxFrame+1)); at != 0 || e != api.ErrLong {
		t.Errorf("an entry too long: %d, error %d", at, e)
	}
	p.same()
	p.append(text(api.MaxFrame - 1))
	p.append("")
	p.sync()
	p.crash(nil, 20)

	// Of two errors the first one named.
	p.d.Limit(0)
	if _, e := p.l.Append(make([]byte, api.MaxFrame+1)); e != api.ErrLong {
		t.Errorf("too long and full: error %d", e)
	}
	p.d.Fail(true)
	if _, e := p.l.Append(make([]byte, api.MaxFrame+1)); e != api.ErrLong {
		t.Errorf("too long and a fault: error %d", e)
	}
	if _, e := p.l.Append([]byte("x")); e != api.ErrFault {
		t.Errorf("full and a fault: error %d", e)
	}
}

// P6.2: at the greatest offset there is no more. No disk leads there, so the log is made by hand.
func TestExhausted(t *testing.T) {
	d := newDisk(t, nil)
	l := &Log{disk: d, prefix: "log-", room: 1000, segments: []segment{{base: api.MaxCount - 2}}}
	for i := range 2 {
		if at, e := l.Append([]byte("x")); at != api.MaxCount-2+i || e != api.OK {
			t.Errorf("Append: %d, %d", at, e)
		}
	}
	was := filesOf(d.Names(), d.Read)
	for range 2 {
		if at, e := l.Append([]byte("x")); at != 0 || e != api.ErrExhausted {
			t.Errorf("Append: %d, %d, want ErrExhausted", at, e)
		}
	}
	if _, e := l.Append(make([]byte, api.MaxFrame+1)); e != api.ErrLong {
		t.Errorf("too long at the end: error %d", e)
	}
	d.Fail(true)
	if _, e := l.Append(nil); e != api.ErrExhausted {
		t.Errorf("exhausted and a fault: error %d", e)
	}
	if l.Next() != api.MaxCount || !maps.Equal(filesOf(d.Names(), d.Read), was) {
		t.Errorf("Next %d, files %q", l.Next(), d.Names())
	}
	if b, e := l.Read(api.MaxCount - 1); string(b) != "x" || e != api.OK {
		t.Errorf("Read: %q, %d", b, e)
	}
	if b, e := l.Read(api.MaxCount); b != nil || e != api.ErrNone {
		t.Errorf("Read: %q, %d", b, e)
	}
	n := 0
	for at := range l.All(api.MaxCount - 1) {
		if at != api.MaxCount-1 {
			t.Errorf("All tells of %d", at)
		}
		n++
	}
	if n != 1 {
		t.Errorf("All tells of %d entries", n)
	}
}

// refusedAppend: the error, and that the log has what it had.
func (p *pair) refusedAppend(entry string, want api.Errno) {
	p.t.Helper()
	p.row = append(p.row, fmt.Sprintf("Append(%.20q) refused", entry))
	if at, e := p.l.Append([]byte(entry)); at != 0 || e != want {
		p.failed("%d, error %d, want %d", at, e, want)
	}
	// Whether the last segment was synced by then isn't said.
	if all := p.m.segments(); len(all) > 0 && all[len(all)-1].whole >= p.m.room && p.d.Pending() == 0 {
		p.m.syncAll()
		p.kept = len(p.all)
	}
	p.same()
}

// P6.2: the disk's error: the log has what it had, and goes on when the disk does.
func TestAppendRefused(t *testing.T) {
	for _, n := range []int{0, 1, 2, 3, 4} {
		p := newPair(t, "log", 20, nil)
		for i := range n {
			p.append(text(i))
		}
		p.d.Fail(true)
		p.refusedAppend("x", api.ErrFault)
		p.refusedAppend("", api.ErrFault)
		p.d.Fail(false)
		p.append("x")
		p.d.Limit(p.d.Used() + 14)
		p.refusedAppend("abc", api.ErrFull)
		p.d.Limit(p.d.Used() + 11)
		p.refusedAppend("", api.ErrFull)
		p.d.Limit(0)
		p.refusedAppend("", api.ErrFull)
		p.d.Limit(p.d.Used() + 15)
		p.append("abc")
		p.refusedAppend("", api.ErrFull)
		p.sync()
		p.crash(nil, 20)
	}
}

// P6.2: Sync asks the disk for each segment, whether it was durable or not; of a log without a segment for nothing.
func TestSyncRefused(t *testing.T) {
	p := newPair(t, "log", 20, nil)
	p.d.Fail(true)
	p.sync()
	p.cutHead(0)
	p.d.Fail(false)
	p.append("x")
	p.sync()
	p.d.Fail(true)
	if e := p.l.Sync(); e != api.ErrFault {
		t.Errorf("error %d, want ErrFault", e)
	}
}

// P6.2: Sync syncs all segments, those ahead of the last one too: an earlier log on the disk may have left them.
func TestSyncAll(t *testing.T) {
	for _, call := range []func(*Log) api.Errno{(*Log).Sync, func(l *Log) api.Errno { return l.CutHead(0) }} {
		d := newDisk(t, nil)
		a := plainFrame("a")
		for _, file := range []string{"log-0", "log-1", "log-2"} {
			d.Write(file, 0, []byte(a))
		}
		l, e := Open(d, "log", 20)
		if e != api.OK || d.Pending() != 3 {
			t.Fatalf("error %d, %d changes", e, d.Pending())
		}
		if e := call(l); e != api.OK || d.Pending() != 0 {
			t.Errorf("error %d, %d changes", e, d.Pending())
		}
		if got := filesOf(d.Names(), d.Durable); !maps.Equal(got, map[string]string{"log-0": a, "log-1": a, "log-2": a}) {
			t.Errorf("durable: %q", got)
		}
	}
}

// P6.3: a range may end at any entry, be begun again, and take two steps at once.
func TestRangesThatEnd(t *testing.T) {
	p := newPair(t, "log", 20, nil)
	for i := range 7 {
		p.append(text(i))
	}
	all := p.l.All(1)
	for n := 1; n <= 6; n++ {
		var got []int
		for at, b := range all {
			if string(b) != text(at) {
				t.Errorf("%d is %q", at, b)
			}
			got = append(got, at)
			if len(got) == n {
				break
			}
		}
		if want := []int{1, 2, 3, 4, 5, 6}[:n]; !slices.Equal(got, want) {
			t.Errorf("%d, want %d", got, want)
		}
	}
}

// P6.3: the one who ranges may change the log: the range ends, and tells what was there when it began.
func TestRangesOverChanges(t *testing.T) {
	for _, room := range []int{1, 20, 1000} {
		for _, change := range []func(*Log){
			func(l *Log) { l.Append([]byte("more")) },
			func(l *Log) { l.CutTail(l.First()); l.Append([]byte("other")); l.Append([]byte("other")) },
			func(l *Log) { l.CutTail(max(l.Next()-1, l.First())); l.Append([]byte("other")) },
			func(l *Log) { l.CutHead(l.Next()); l.Append([]byte("other")) },
			func(l *Log) { l.CutHead(min(l.First()+1, l.Next())) },
		} {
			p := newPair(t, "log", room, nil)
			all := p.l.All(0)
			var want, got []string
			for i := range 6 {
				p.append(text(i))
				want = append(want, text(i))
			}
			for at, b := range all {
				if at != len(got) {
					t.Errorf("room %d: %d is told, want %d", room, at, len(got))
				}
				got = append(got, string(b))
				change(p.l)
			}
			if !slices.Equal(got, want) {
				t.Errorf("room %d: %q, want %q", room, got, want)
			}
		}
	}
}

// filled is a log of so many entries, of which the last two aren't synced by the log's own calls.
func filled(t *testing.T, room, entries, head int) *pair {
	t.Helper()
	p := newPair(t, "log", room, nil)
	for i := range entries {
		if i == entries-2 {
			p.sync()
		}
		p.append(strings.Repeat(string(rune('a'+i)), i%4))
	}
	p.cutHead(head)
	return p
}

// P6.4: both cuts at each offset, and beyond both ends; behind a crash what was cut is gone, and what stands stands.
func TestCuts(t *testing.T) {
	for _, room := range []int{1, 14, 20, 30, 1000} {
		for _, head := range []int{0, 4, 9} {
			for at := -2; at <= 12; at++ {
				p := filled(t, room, 10, head)
				p.cutTail(at)
				p.append("next")
				p.append("and next")
				p.crash([]int{at, 1 - at%2, 20}, room)
				p.append("last")

				p = filled(t, room, 10, head)
				p.append("next")
				p.cutHead(at)
				p.crash([]int{at, 1 - at%2, 20}, room)
				p.append("last")
			}
		}
	}
	for _, at := range []int{math.MinInt, -1, 4, math.MaxInt} {
		p := filled(t, 20, 3, 0)
		p.cutTail(at)
		p.cutHead(at)
	}
}

// P6.4: what CutTail cut and removed is gone at once and for good: a crash brings nothing of it back.
func TestCutTailStays(t *testing.T) {
	for _, room := range []int{1, 20, 1000} {
		for at := range 9 {
			p := filled(t, room, 8, 0)
			p.sync()
			p.cutTail(at)
			if len(p.m.segments()) > 0 && p.d.Pending() != 0 {
				t.Errorf("room %d, CutTail(%d): %d changes aren't durable", room, at, p.d.Pending())
			}
			p.crash(nil, room)
			if p.l.Next() != at {
				t.Errorf("room %d: Next is %d behind CutTail(%d) and a crash", room, p.l.Next(), at)
			}
		}
	}
}

// P6.4: an empty last segment, which a repair has left, goes by a CutTail at its place; the last one stands by any CutHead.
func TestEmptyLastSegment(t *testing.T) {
	files := map[string]string{"log-0": plainFrame("a") + plainFrame("b"), "log-2": "torn"}
	p := newPair(t, "log", 20, files)
	if got := p.d.Names(); !slices.Equal(got, []string{"log-0", "log-2"}) || p.l.Next() != 2 {
		t.Fatalf("files %q, Next %d", got, p.l.Next())
	}
	p.cutTail(2)
	if got := p.d.Names(); !slices.Equal(got, []string{"log-0"}) || p.l.Next() != 2 {
		t.Errorf("files %q, Next %d", got, p.l.Next())
	}
	p = newPair(t, "log", 20, files)
	p.cutHead(2)
	p.tells(2, nil)
	p.cutHead(2)
	p.crash(nil, 20)
	p.tells(2, nil)
	p.append("c")
	p.tells(2, []string{"c"})
}

// P6.4: CutTail where nothing is to be cut asks nothing of the disk; CutHead syncs all, whatever goes.
func TestCutsThatCutNothing(t *testing.T) {
	p := newPair(t, "log", 20, nil)
	p.append("a")
	p.append("b")
	p.append("c")
	p.d.Fail(true)
	p.cutTail(3)
	p.cutTail(4)
	p.cutHead(4)
	p.d.Fail(false)
	if p.d.Pending() != 1 {
		t.Fatalf("%d changes", p.d.Pending())
	}
	p.cutHead(0)
	if p.d.Pending() != 0 {
		t.Errorf("%d changes behind CutHead(0)", p.d.Pending())
	}
	p.d.Fail(true)
	if e := p.l.CutHead(0); e != api.ErrFault {
		t.Errorf("CutHead(0): error %d, want ErrFault", e)
	}
}

// P6.5: a log of which a part was synced, and crashes at each byte of each change that wasn't.
func TestEachCrash(t *testing.T) {
	for _, room := range []int{14, 40, 1000} {
		p := newPair(t, "log", room, nil)
		for _, entry := range []string{"abc", "d", "", "ef"} {
			p.append(entry)
		}
		p.sync()
		p.cutTail(3)
		for _, entry := range []string{"", "gh", "i"} {
			p.append(entry)
		}
		n := p.d.Pending()
		rows := 1
		for range n {
			rows *= 17
		}
		for row := range rows {
			picks := make([]int, n)
			for i := range picks {
				picks[i] = row % 17
				row /= 17
			}
			q := &pair{t: t, row: slices.Clone(p.row), d: p.d.Copy(), m: &plain{"log", room, p.m.now, nil, nil}, kept: p.kept, all: p.all}
			q.crash(picks, room)
		}
	}
}

// step makes a call that is picked by a number; false, if there is none.
func (p *pair) step(n int) bool {
	first, next := p.m.first(), p.m.next()
	switch n {
	case 0:
		p.append("")
	case 1:
		p.append("abc")
	case 2:
		p.sync()
	case 3:
		p.cutTail(max(next-1, first))
	case 4:
		p.cutTail(first + 1)
	case 5:
		p.cutHead(next)
	case 6:
		p.cutHead(first + 2)
	case 7:
		p.crash(nil, p.m.room)
	case 8:
		p.crash([]int{13, 5, 99, 1}, p.m.room)
	case 9:
		p.open(p.m.room)
	default:
		return false
	}
	return true
}

// P6.1 to P6.5: all rows of four calls, behind two entries.
func TestAllShortRows(t *testing.T) {
	const calls, length = 10, 4
	rows := 1
	for range length {
		rows *= calls
	}
	for row := range rows {
		p := newPair(t, "log", 20, nil)
		p.append("abc")
		p.append("d")
		for range length {
			if !p.step(row % calls) {
				t.Fatalf("no call %d", row%calls)
			}
			row /= calls
		}
	}
}

// P6.1 to P6.5: long rows of calls, with a seed of their own each.
func TestLongRows(t *testing.T) {
	for seed := range int64(150) {
		r := rand.New(rand.NewSource(seed))
		room := []int{1, 14, 20, 50, 200}[r.Intn(5)]
		p := newPair(t, "log", room, strangers())
		for range 80 {
			p.anyStep(r)
		}
	}
}

func (p *pair) anyStep(r *rand.Rand) {
	first, next := p.m.first(), p.m.next()
	switch n := r.Intn(20); {
	case n < 9:
		p.append(text(r.Intn(20)))
	case n < 11:
		p.sync()
	case n < 13:
		p.cutTail(first - 1 + r.Intn(next-first+3))
	case n < 15:
		p.cutHead(first - 1 + r.Intn(next-first+3))
	case n < 16:
		p.open(p.m.room)
	case n < 17:
		p.open([]int{1, 14, 20, 50, 200}[r.Intn(5)])
	case n < 18:
		p.d.Fail(true)
		p.refusedAppend(text(r.Intn(20)), api.ErrFault)
		p.d.Fail(false)
	case n < 19:
		p.d.Limit(p.d.Used() + r.Intn(15))
		p.refusedAppend(text(15), api.ErrFull)
		p.d.Limit(1 << 20)
	default:
		picks := make([]int, r.Intn(p.d.Pending()+2))
		for i := range picks {
			picks[i] = []int{-1, 0, 1, 8, 15, 99, 99, 99, 99, 99}[r.Intn(10)]
		}
		p.crash(picks, p.m.room)
	}
}

// P6.6: an error of the disk in Sync, CutTail or CutHead breaks the log, though the disk goes on later; opened again it isn't broken any more.
func TestBroken(t *testing.T) {
	for name, call := range map[string]func(*Log) api.Errno{
		"Sync":                 (*Log).Sync,
		"CutTail in a segment": func(l *Log) api.Errno { return l.CutTail(1) },
		"CutTail of a segment": func(l *Log) api.Errno { return l.CutTail(2) },
		"CutTail of all":       func(l *Log) api.Errno { return l.CutTail(0) },
		"CutTail of the last":  func(l *Log) api.Errno { return l.CutTail(3) },
		"CutHead":              func(l *Log) api.Errno { return l.CutHead(2) },
		"CutHead of none":      func(l *Log) api.Errno { return l.CutHead(0) },
	} {
		p := newPair(t, "log", 20, nil)
		for _, entry := range []string{"abc", "d", "e", "f"} {
			p.append(entry)
		}
		p.row = append(p.row, name)
		p.d.Fail(true)
		if e := call(p.l); e != api.ErrFault {
			p.failed("error %d, want ErrFault", e)
		}
		p.same()
		for _, fails := range []bool{true, false} {
			p.d.Fail(fails)
			for _, entry := range [][]byte{nil, []byte("x"), make([]byte, api.MaxFrame+1)} {
				if at, e := p.l.Append(entry); at != 0 || e != api.ErrState {
					p.failed("Append: %d, error %d, want ErrState", at, e)
				}
			}
			if e := p.l.Sync(); e != api.ErrState {
				p.failed("Sync: error %d, want ErrState", e)
			}
			for _, at := range []int{-1, 0, 2, 3, 4, 5} {
				if e := p.l.CutTail(at); e != api.ErrState {
					p.failed("CutTail(%d): error %d, want ErrState", at, e)
				}
				if e := p.l.CutHead(at); e != api.ErrState {
					p.failed("CutHead(%d): error %d, want ErrState", at, e)
				}
			}
			p.same()
		}
		p.open(20)
		p.append("g")
		p.sync()
		p.cutHead(2)
		p.cutTail(3)
	}
}

// P6.6: nothing else breaks a log.
func TestNotBroken(t *testing.T) {
	p := newPair(t, "log", 20, nil)
	for i := range 5 {
		p.append(text(i))
	}
	p.cutTail(6)
	p.cutHead(6)
	p.cutTail(-1)
	p.cutHead(-1)
	p.l.Append(make([]byte, api.MaxFrame+1))
	p.l.Read(5)
	p.d.Fail(true)
	p.refusedAppend("x", api.ErrFault)
	p.d.Fail(false)
	p.d.Limit(0)
	p.refusedAppend("x", api.ErrFull)
	p.sync()
	p.cutHead(3)
	p.cutTail(4)
	p.d.Limit(1000)
	p.append("x")
}

// P6.6, P1: a log under which the disk was changed by others is not promised anything, but that its calls end.
func TestChangedByOthers(t *testing.T) {
	for _, spoil := range []func(*disk.Disk){
		func(d *disk.Disk) { d.Crash(nil) },
		func(d *disk.Disk) { d.Remove("log-2") },
		func(d *disk.Disk) { d.Remove("log-0"); d.Sync("log-0") },
		func(d *disk.Disk) { d.Cut("log-2", 1) },
		func(d *disk.Disk) { d.Write("log-2", 0, make([]byte, 100)) },
	} {
		for _, call := range []func(*Log){
			func(l *Log) { l.Append([]byte("x")) },
			func(l *Log) { l.Sync() },
			func(l *Log) { l.CutTail(0) },
			func(l *Log) { l.CutTail(3) },
			func(l *Log) { l.CutHead(2) },
		} {
			p := filled(t, 20, 6, 0)
			spoil(p.d)
			for range 2 {
				call(p.l)
				p.l.Read(3)
				for range p.l.All(0) {
				}
			}
		}
	}
}

// P6.6: a nil log.
func TestNilLog(t *testing.T) {
	var l *Log
	for _, entry := range [][]byte{nil, []byte("x"), make([]byte, api.MaxFrame+1)} {
		if at, e := l.Append(entry); at != 0 || e != api.ErrState {
			t.Errorf("Append: %d, %d", at, e)
		}
	}
	if e := l.Sync(); e != api.ErrState {
		t.Errorf("Sync: %d", e)
	}
	for _, at := range []int{math.MinInt, -1, 0, 1, math.MaxInt} {
		if b, e := l.Read(at); b != nil || e != api.ErrState {
			t.Errorf("Read(%d): %q, %d", at, b, e)
		}
		if e := l.CutTail(at); e != api.ErrState {
			t.Errorf("CutTail(%d): %d", at, e)
		}
		if e := l.CutHead(at); e != api.ErrState {
			t.Errorf("CutHead(%d): %d", at, e)
		}
		for i, b := range l.All(at) {
			t.Errorf("All(%d) tells of %d, %q", at, i, b)
		}
	}
	if l.First() != 0 || l.Next() != 0 {
		t.Errorf("%d to %d", l.First(), l.Next())
	}
}

// P6.6: what was handed in isn't changed, nor the room behind it, and isn't kept; answers are new memory.
func TestMemory(t *testing.T) {
	p := newPair(t, "log", 1000, nil)
	for range 2 {
		all := []byte("entry and behind")
		entry := all[:5]
		if _, e := p.l.Append(entry); e != api.OK || string(all) != "entry and behind" {
			t.Fatalf("error %d, %q", e, all)
		}
		copy(all, "XXXXXXXX")
	}
	spoil := func(b []byte) {
		for i := range b[:cap(b)] {
			b[:cap(b)][i] = 'Y'
		}
	}
	for range 2 {
		for at := range 2 {
			b, _ := p.l.Read(at)
			again, _ := p.l.Read(at)
			spoil(b)
			if string(again) != "entry" {
				t.Errorf("Read(%d) = %q", at, again)
			}
		}
		for at, b := range p.l.All(0) {
			if string(b) != "entry" {
				t.Errorf("All tells of %d: %q", at, b)
			}
			spoil(b)
		}
		p.l.Sync()
		p.d.Crash(nil)
		p.l, _ = Open(p.d, "log", 1000)
		if p.l.Next() != 2 {
			t.Fatalf("Next %d", p.l.Next())
		}
	}
}

// P6.5: a copy of the disk is another log, which has what it had.
func TestCopiedDisk(t *testing.T) {
	p := filled(t, 20, 6, 2)
	l, e := Open(p.d.Copy(), "log", 20)
	if e != api.OK {
		t.Fatalf("error %d", e)
	}
	l.CutTail(3)
	l.Append([]byte("other"))
	p.same()
}
