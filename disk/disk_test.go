package disk

import (
	"bytes"
	"maps"
	"math"
	"math/rand"
	"slices"
	"strings"
	"testing"

	"millrace/api"
)

// plain is the chapter's disk to the letter: texts in maps, and a list of what isn't durable.
type plain struct {
	room         int
	now, durable map[string]string
	changes      []step
	fails        bool
}

// step is a call of 'w' Write, 'c' Cut, 'r' Remove, 's' Sync; the first three are changes too.
type step struct {
	kind byte
	name string
	at   int
	data string
}

func newPlain(room int) *plain {
	return &plain{room: room, now: map[string]string{}, durable: map[string]string{}}
}

func (m *plain) copied() *plain {
	return &plain{m.room, maps.Clone(m.now), maps.Clone(m.durable), slices.Clone(m.changes), m.fails}
}

func (m *plain) used() int {
	n := 0
	for _, s := range m.now {
		n += len(s)
	}
	return n
}

func over(s string, at int, data string) string {
	end := min(at+len(data), len(s))
	return s[:at] + data + s[end:]
}

func plainName(name string) bool {
	const all = "abcdefghijklmnopqrstuvwxyz0123456789-"
	return len(name) >= 1 && len(name) <= 32 && strings.Trim(name, all) == ""
}

func (m *plain) named(name string) bool {
	return slices.ContainsFunc(m.changes, func(c step) bool { return c.name == name })
}

func (m *plain) do(s step) api.Errno {
	now, is := m.now[s.name]
	_, durable := m.durable[s.name]
	switch {
	case m.fails:
		return api.ErrFault
	case !plainName(s.name) || s.at < 0:
		return api.ErrArg
	case (s.kind == 'c' || s.kind == 'r') && !is:
		return api.ErrNone
	case s.kind == 's' && !is && !durable && !m.named(s.name):
		return api.ErrNone
	case (s.kind == 'w' || s.kind == 'c') && s.at > len(now):
		return api.ErrRange
	}
	switch s.kind {
	case 'w':
		long := over(now, s.at, s.data)
		used := m.used() - len(now) + len(long)
		if used > m.room && used > m.used() {
			return api.ErrFull
		}
		m.now[s.name] = long
	case 'c':
		m.now[s.name] = now[:s.at]
	case 'r':
		delete(m.now, s.name)
	case 's':
		delete(m.durable, s.name)
		if is {
			m.durable[s.name] = now
		}
		m.changes = slices.DeleteFunc(m.changes, func(c step) bool { return c.name == s.name })
		return api.OK
	}
	m.changes = append(m.changes, s)
	return api.OK
}

func (m *plain) crash(picks []int) {
	for i, c := range m.changes {
		p := 0
		if i < len(picks) && picks[i] > 0 {
			p = picks[i]
		}
		b, is := m.durable[c.name]
		switch {
		case p == 0:
		case c.kind == 'w' && c.data != "" && c.at <= len(b):
			m.durable[c.name] = over(b, c.at, c.data[:min(p, len(c.data))])
		case c.kind == 'c' && is && len(b) > c.at:
			m.durable[c.name] = b[:c.at]
		case c.kind == 'r':
			delete(m.durable, c.name)
		}
	}
	m.now, m.changes, m.fails = maps.Clone(m.durable), nil, false
}

func do(d *Disk, s step) api.Errno {
	switch s.kind {
	case 'w':
		return d.Write(s.name, s.at, []byte(s.data))
	case 'c':
		return d.Cut(s.name, s.at)
	case 'r':
		return d.Remove(s.name)
	}
	return d.Sync(s.name)
}

func w(name string, at int, data string) step { return step{'w', name, at, data} }
func c(name string, size int) step            { return step{'c', name, size, ""} }
func r(name string) step                      { return step{'r', name, 0, ""} }
func s(name string) step                      { return step{'s', name, 0, ""} }

func made(t *testing.T, room int, steps ...step) *Disk {
	t.Helper()
	d, e := New(room)
	if e != api.OK {
		t.Fatalf("New(%d): error %d", room, e)
	}
	allOK(t, d, steps...)
	return d
}

func allOK(t *testing.T, d *Disk, steps ...step) {
	t.Helper()
	for _, x := range steps {
		if e := do(d, x); e != api.OK {
			t.Fatalf("%c %s %d %q: error %d", x.kind, x.name, x.at, x.data, e)
		}
	}
}

// refused: the error, and that nothing has changed.
func refused(t *testing.T, what string, d *Disk, x step, want api.Errno) {
	t.Helper()
	was := seen(d)
	if e := do(d, x); e != want {
		t.Errorf("%s: %c %.40s %d: error %d, want %d", what, x.kind, x.name, x.at, e, want)
	}
	if now := seen(d); now != was {
		t.Errorf("%s: %c %.40s %d: a refused call made %+v of %+v", what, x.kind, x.name, x.at, now, was)
	}
}

func has(t *testing.T, what string, f func(string) ([]byte, bool), name, want string) {
	t.Helper()
	if b, ok := f(name); !ok || string(b) != want {
		t.Errorf("%s: %s is %q, %v, want %q", what, name, b, ok, want)
	}
}

func hasNone(t *testing.T, what string, f func(string) ([]byte, bool), name string) {
	t.Helper()
	if b, ok := f(name); ok || b != nil {
		t.Errorf("%s: %.40s is %q, %v, want none", what, name, b, ok)
	}
}

func counts(t *testing.T, what string, d *Disk, used, pending int, names ...string) {
	t.Helper()
	if d.Used() != used || d.Pending() != pending || !slices.Equal(d.Names(), names) {
		t.Errorf("%s: used %d, pending %d, names %q, want %d, %d, %q", what, d.Used(), d.Pending(), d.Names(), used, pending, names)
	}
}

// look is all that a disk tells of the names that the tests use, and what a crash that keeps all would leave.
type look struct {
	now, durable, names, behind string
	used, pending               int
}

func told(f func(string) ([]byte, bool)) string {
	var all strings.Builder
	for _, name := range []string{"a", "b", "c"} {
		if b, ok := f(name); ok {
			all.WriteString(name + "=" + string(b) + ";")
		}
	}
	return all.String()
}

func seen(d *Disk) look {
	l := look{now: told(d.Read), durable: told(d.Durable), names: strings.Join(d.Names(), " "), used: d.Used(), pending: d.Pending()}
	if twin := d.Copy(); twin != nil {
		twin.Crash(slices.Repeat([]int{math.MaxInt}, l.pending))
		l.behind = told(twin.Read)
	}
	return l
}

func (m *plain) seen() look {
	of := func(files map[string]string) string {
		return told(func(name string) ([]byte, bool) {
			b, ok := files[name]
			return []byte(b), ok
		})
	}
	twin := m.copied()
	twin.crash(slices.Repeat([]int{math.MaxInt}, len(m.changes)))
	names := slices.Sorted(maps.Keys(m.now))
	return look{of(m.now), of(m.durable), strings.Join(names, " "), of(twin.now), m.used(), len(m.changes)}
}

func alike(t *testing.T, d *Disk, m *plain, what any) {
	t.Helper()
	if got, want := seen(d), m.seen(); got != want {
		t.Fatalf("%v: %+v, want %+v", what, got, want)
	}
}

// P4.1 to P4.5: the chapter's examples.
func TestExamples(t *testing.T) {
	d := made(t, 100, w("a", 0, "xyz"), s("a"), w("a", 1, "12"), w("b", 0, "q"))
	has(t, "now", d.Read, "a", "x12")
	has(t, "durable", d.Durable, "a", "xyz")
	counts(t, "ahead of the crash", d, 4, 2, "a", "b")
	d.Crash([]int{1})
	has(t, "behind the crash", d.Read, "a", "x1z")
	hasNone(t, "behind the crash", d.Read, "b")
	counts(t, "behind the crash", d, 3, 0, "a")
	refused(t, "behind the end", d, w("a", 4, "."), api.ErrRange)

	d = made(t, 3)
	refused(t, "no room", d, w("a", 0, "abcd"), api.ErrFull)
	allOK(t, d, w("a", 0, "abc"), w("a", 1, "z"))
	refused(t, "a wrong name", d, w("A", 0, ""), api.ErrArg)
	has(t, "written over", d.Read, "a", "azc")

	d = made(t, 3, w("a", 0, ""), s("a"))
	has(t, "an empty file", d.Read, "a", "")
	has(t, "an empty file", d.Durable, "a", "")
	allOK(t, d, r("a"))
	hasNone(t, "removed", d.Read, "a")
	d.Crash(nil)
	has(t, "there again", d.Read, "a", "")
}

// P4.1: the rooms that there are; a new disk is empty.
func TestNew(t *testing.T) {
	for _, room := range []int{-1, math.MinInt, 1<<30 + 1, math.MaxInt, 1 << 32} {
		if d, e := New(room); d != nil || e != api.ErrArg {
			t.Errorf("New(%d): %v, error %d", room, d, e)
		}
		d := made(t, 5)
		if e := d.Limit(room); e != api.ErrArg {
			t.Errorf("Limit(%d): error %d", room, e)
		}
		refused(t, "the room is as it was", d, w("a", 0, "abcdef"), api.ErrFull)
		allOK(t, d, w("a", 0, "abcde"))
	}
	for _, room := range []int{0, 1, 2, 1 << 30} {
		d := made(t, room)
		counts(t, "a new disk", d, 0, 0)
		if e := d.Limit(room); e != api.OK {
			t.Errorf("Limit(%d): error %d", room, e)
		}
		d.Crash([]int{1, 2})
		counts(t, "a new disk behind a crash", d, 0, 0)
	}
	allOK(t, made(t, 0), w("a", 0, ""), w("a", 0, ""), c("a", 0), s("a"), r("a"))
	refused(t, "no room at all", made(t, 0), w("a", 0, "x"), api.ErrFull)
}

// P4.1: each byte alone and within, and each length.
func TestRightNames(t *testing.T) {
	names := []string{"", "a", "-", "0", "--", "z9-", "log-0", strings.Repeat("a", 31), strings.Repeat("b", 32), strings.Repeat("c", 33), strings.Repeat("d", 1<<16), "ä", "a b", "a\x00", "a/b", "a.b", "a_b", "Z"}
	for i := range 256 {
		one := string([]byte{byte(i)})
		names = append(names, one, "a"+one, one+"a", "a"+one+"a", strings.Repeat("x", 31)+one)
	}
	for _, name := range names {
		d := made(t, 100, w("a", 0, "abc"))
		if plainName(name) {
			allOK(t, d, w(name, 0, "xyzt"), s(name), c(name, 2))
			has(t, "a right name", d.Read, name, "xy")
			has(t, "a right name", d.Durable, name, "xyzt")
			allOK(t, d, r(name), s(name))
			hasNone(t, "a right name", d.Durable, name)
			continue
		}
		for _, x := range []step{w(name, 0, "x"), w(name, 0, ""), c(name, 0), r(name), s(name)} {
			refused(t, "a wrong name", d, x, api.ErrArg)
		}
		hasNone(t, "a wrong name", d.Read, name)
		hasNone(t, "a wrong name", d.Durable, name)
	}
}

// P4.1, P4.3: data over what was there, across its end, behind it, and of any bytes.
func TestWrite(t *testing.T) {
	var all []byte
	for i := range 256 {
		all = append(all, byte(255-i))
	}
	for _, data := range []string{"", "x", "xy", "\x00\xff", string(all)} {
		for _, was := range []string{"", "a", "abc", strings.Repeat("long", 50)} {
			for at := range len(was) + 1 {
				d := made(t, 1000, w("a", 0, was), w("a", at, data))
				has(t, "written", d.Read, "a", over(was, at, data))
				counts(t, "written", d, len(over(was, at, data)), 2, "a")
				hasNone(t, "written", d.Durable, "a")
			}
		}
	}
	d := made(t, 1000, w("a", 0, "abc"))
	if e := d.Write("b", 0, nil); e != api.OK {
		t.Errorf("Write of nil: error %d", e)
	}
	has(t, "nothing written", d.Read, "b", "")
	counts(t, "nothing written", d, 3, 2, "a", "b")
}

// P4.1: to each size; what is written behind a cut stands there.
func TestCut(t *testing.T) {
	for size := range 5 {
		for _, durable := range []bool{false, true} {
			d := made(t, 100, w("a", 0, "abcd"))
			left := 1
			if durable {
				allOK(t, d, s("a"))
				left = 0
			}
			allOK(t, d, c("a", size))
			has(t, "cut", d.Read, "a", "abcd"[:size])
			counts(t, "cut", d, size, left+1, "a")
			refused(t, "cut to more", d, c("a", size+1), api.ErrRange)
			refused(t, "written behind the cut", d, w("a", size+1, ""), api.ErrRange)
			allOK(t, d, w("a", size, "xyz"))
			has(t, "written behind the cut", d.Read, "a", "abcd"[:size]+"xyz")
			if durable {
				has(t, "cut, not synced", d.Durable, "a", "abcd")
			}
			d.Crash([]int{0, 0, 0})
			if durable {
				has(t, "the cut is lost", d.Read, "a", "abcd")
			}
		}
	}
}

// P4.1: a file that is removed is gone, and can be made anew.
func TestRemove(t *testing.T) {
	d := made(t, 4, w("a", 0, "abcd"), w("b", 0, ""), s("a"), r("a"))
	hasNone(t, "removed", d.Read, "a")
	has(t, "removed, not synced", d.Durable, "a", "abcd")
	counts(t, "removed", d, 0, 2, "b")
	refused(t, "removed twice", d, r("a"), api.ErrNone)
	refused(t, "cut when removed", d, c("a", 0), api.ErrNone)
	refused(t, "written behind its beginning when removed", d, w("a", 1, ""), api.ErrRange)
	allOK(t, d, w("a", 0, "xy"))
	has(t, "made anew", d.Read, "a", "xy")
	has(t, "made anew, not synced", d.Durable, "a", "abcd")
	counts(t, "made anew", d, 2, 3, "a", "b")
	allOK(t, d, s("a"))
	has(t, "made anew and synced", d.Durable, "a", "xy")
}

// P4.2: a file is durable as it is now, or gone; the changes of others stay, in their order.
func TestSync(t *testing.T) {
	d := made(t, 100, w("a", 0, "abc"), w("b", 0, "xy"), w("a", 1, "zzz"), c("b", 1), w("a", 0, "-"), w("c", 0, "c"), s("a"))
	has(t, "synced", d.Durable, "a", "-zzz")
	hasNone(t, "another one synced", d.Durable, "b")
	counts(t, "synced", d, 6, 3, "a", "b", "c")
	allOK(t, d, s("a"), s("a"))
	counts(t, "synced again", d, 6, 3, "a", "b", "c")
	d.Crash([]int{2, 1, 0})
	has(t, "what was synced", d.Read, "a", "-zzz")
	has(t, "the first and second change that were left", d.Read, "b", "x")
	hasNone(t, "the third change that was left", d.Read, "c")

	d = made(t, 100, w("a", 0, "abc"), s("a"), r("a"), w("b", 0, ""), s("a"))
	hasNone(t, "a removal that was synced", d.Durable, "a")
	counts(t, "a removal that was synced", d, 0, 1, "b")
	refused(t, "gone altogether", d, s("a"), api.ErrNone)
	d.Crash([]int{1, 1, 1})
	hasNone(t, "a removal that was synced", d.Read, "a")
}

// P4.2: what can be synced: what is there now, or durable, or has a change.
func TestWhatCanBeSynced(t *testing.T) {
	for _, x := range []struct {
		what  string
		steps []step
		e     api.Errno
	}{
		{"never heard of", []step{w("b", 0, "b"), s("b")}, api.ErrNone},
		{"there now", []step{w("a", 0, "")}, api.OK},
		{"there now and durable", []step{w("a", 0, ""), s("a")}, api.OK},
		{"durable alone", []step{w("a", 0, "x"), s("a"), r("a")}, api.OK},
		{"made and removed", []step{w("a", 0, "x"), r("a")}, api.OK},
		{"made, removed and synced", []step{w("a", 0, "x"), r("a"), s("a")}, api.ErrNone},
		{"durable, removed and synced", []step{w("a", 0, "x"), s("a"), r("a"), s("a")}, api.ErrNone},
	} {
		d := made(t, 100, x.steps...)
		if e := d.Sync("a"); e != x.e {
			t.Errorf("%s: error %d, want %d", x.what, e, x.e)
		}
	}
	d := made(t, 100, w("a", 0, "x"))
	d.Crash(nil)
	refused(t, "lost in a crash", d, s("a"), api.ErrNone)
	d = made(t, 100, w("a", 0, "x"), r("a"))
	counts(t, "made and removed", d, 0, 2)
	d.Crash([]int{1, 0})
	has(t, "made, its removal lost", d.Read, "a", "x")
}

// P4.3: the files that are there now, rising, byte by byte.
func TestNames(t *testing.T) {
	names := []string{"-", "--", "-0", "0", "00", "1", "10", "2", "a", "a-", "a-1", "a0", "aa", "b", "z", "zz"}
	var steps []step
	for _, i := range rand.New(rand.NewSource(1)).Perm(len(names)) {
		steps = append(steps, w(names[i], 0, "x"))
	}
	for range 10 {
		counts(t, "many files", made(t, 100, steps...), len(names), len(names), names...)
	}
	d := made(t, 100, append(steps, s("0"), r("0"), s("b"), c("b", 0), r("zz"))...)
	left := slices.DeleteFunc(names, func(n string) bool { return n == "0" || n == "zz" })
	counts(t, "some removed", d, len(left)-1, len(names)+1, left...)
}

// P4.1, P4.3, P4.5: the room is asked for by what makes the used bytes more, not else.
func TestRoom(t *testing.T) {
	d := made(t, 5, w("a", 0, "abc"), w("b", 0, "x"))
	refused(t, "one byte too many behind", d, w("a", 3, "de"), api.ErrFull)
	refused(t, "one byte too many across the end", d, w("a", 1, "bcde"), api.ErrFull)
	refused(t, "one byte too many in a new file", d, w("c", 0, "12"), api.ErrFull)
	allOK(t, d, w("a", 2, "cd"), w("a", 0, "ABCD"), w("c", 0, ""), w("a", 4, ""))
	counts(t, "full", d, 5, 6, "a", "b", "c")
	refused(t, "full", d, w("c", 0, "."), api.ErrFull)
	allOK(t, d, c("a", 3), w("c", 0, "."), r("b"), w("c", 1, "."))
	counts(t, "full of others", d, 5, 10, "a", "c")

	if e := d.Limit(2); e != api.OK {
		t.Fatalf("Limit below what is used: error %d", e)
	}
	refused(t, "more than there is room", d, w("a", 3, "."), api.ErrFull)
	refused(t, "more than there is room", d, w("b", 0, "."), api.ErrFull)
	allOK(t, d, w("a", 0, "xyz"), w("b", 0, ""), s("a"), s("b"), s("c"), c("a", 1))
	refused(t, "still more than there is room", d, w("a", 1, "."), api.ErrFull)
	allOK(t, d, c("c", 0), w("a", 1, "."))
	refused(t, "full again", d, w("a", 2, "."), api.ErrFull)
	d.Limit(3)
	allOK(t, d, w("a", 2, "."))
	counts(t, "as much as there is room", d, 3, 4, "a", "b", "c")
}

// P4.4, P4.5: a crash asks for no room, and leaves the room as it was.
func TestRoomBehindCrash(t *testing.T) {
	d := made(t, 3, w("a", 0, "abc"), s("a"), r("a"), w("b", 0, "xyz"))
	d.Crash([]int{0, 3})
	counts(t, "more than there is room", d, 6, 0, "a", "b")
	refused(t, "more than there is room", d, w("c", 0, "."), api.ErrFull)
	allOK(t, d, w("a", 0, "123"), r("b"))
	refused(t, "full", d, w("c", 0, "."), api.ErrFull)
	allOK(t, d, c("a", 2), w("c", 0, "."))
	counts(t, "full", d, 3, 4, "a", "c")
}

// P4.1, P4.2, P4.7: of several errors the first one; a refused call changes nothing.
func TestFirstError(t *testing.T) {
	d := made(t, 5, w("a", 0, "abc"), s("a"), w("b", 0, "xy"), w("a", 0, "z"))
	for _, x := range []struct {
		s step
		e api.Errno
	}{
		{w("", 0, "."), api.ErrArg}, {w("A", 9, "......"), api.ErrArg}, {w("A", 0, "......"), api.ErrArg}, {w("a", -1, "."), api.ErrArg}, {w("c", -1, "......"), api.ErrArg}, {w("a", math.MinInt, ""), api.ErrArg},
		{w("a", 4, ""), api.ErrRange}, {w("a", 4, "......"), api.ErrRange}, {w("c", 1, "......"), api.ErrRange}, {w("c", 1, ""), api.ErrRange}, {w("a", math.MaxInt, "."), api.ErrRange}, {w("a", math.MaxInt, ""), api.ErrRange},
		{w("a", 3, "."), api.ErrFull}, {w("a", 0, "...."), api.ErrFull}, {w("c", 0, "."), api.ErrFull},
		{c("", 0), api.ErrArg}, {c("C", 9), api.ErrArg}, {c("c", -1), api.ErrArg}, {c("a", -1), api.ErrArg}, {c("a", math.MinInt), api.ErrArg},
		{c("c", 0), api.ErrNone}, {c("c", 9), api.ErrNone}, {c("c", math.MaxInt), api.ErrNone},
		{c("a", 4), api.ErrRange}, {c("b", 3), api.ErrRange}, {c("a", math.MaxInt), api.ErrRange},
		{r(""), api.ErrArg}, {r("C"), api.ErrArg}, {r("c"), api.ErrNone},
		{s(""), api.ErrArg}, {s("C"), api.ErrArg}, {s("c"), api.ErrNone},
	} {
		refused(t, "a disk that works", d, x.s, x.e)
		d.Fail(true)
		refused(t, "a disk that fails", d, x.s, api.ErrFault)
		d.Fail(false)
	}
}

// P4.5: a disk that fails refuses what would change a file, and tells what it told; till it doesn't fail any more, or a crash.
func TestFail(t *testing.T) {
	d := made(t, 50, w("a", 0, "abc"), s("a"), w("b", 0, "xy"), w("a", 0, "z"))
	was := seen(d)
	d.Fail(false)
	allOK(t, d, w("a", 0, ""), s("a"), w("a", 0, "z"))
	d = made(t, 50, w("a", 0, "abc"), s("a"), w("b", 0, "xy"), w("a", 0, "z"))
	for range 2 {
		d.Fail(true)
		for _, x := range []step{w("a", 0, "x"), w("a", 0, ""), w("c", 0, ""), c("a", 0), c("a", 3), r("b"), s("a"), s("b"), s("c"), w("A", -1, ""), c("", -1), r("c")} {
			refused(t, "a disk that fails", d, x, api.ErrFault)
		}
	}
	if seen(d) != was {
		t.Errorf("a disk that fails tells %+v, not %+v", seen(d), was)
	}
	if e := d.Limit(4); e != api.OK {
		t.Errorf("Limit of a disk that fails: error %d", e)
	}
	if e := d.Limit(-4); e != api.ErrArg {
		t.Errorf("Limit of a disk that fails: error %d", e)
	}
	refused(t, "a copy fails as well", d.Copy(), s("a"), api.ErrFault)
	twin := d.Copy()
	d.Fail(false)
	refused(t, "a copy goes on failing", twin, s("a"), api.ErrFault)
	allOK(t, d, s("a"), s("b"))
	has(t, "doesn't fail any more", d.Durable, "a", "zbc")

	d.Fail(true)
	d.Crash(nil)
	allOK(t, d, w("b", 1, "Y"), s("b"))
	has(t, "doesn't fail behind a crash", d.Durable, "b", "xY")
}

// P4.4: what becomes of one change, by its number.
func TestCrashOfOneChange(t *testing.T) {
	full := []step{w("a", 0, "abcd"), s("a")}
	empty := []step{w("a", 0, ""), s("a")}
	for _, x := range []struct {
		what    string
		durable []step
		change  step
		behind  map[int]string // by number; "none", if there is no file
	}{
		{"a write over", full, w("a", 1, "12"), map[int]string{math.MinInt: "abcd", -1: "abcd", 0: "abcd", 1: "a1cd", 2: "a12d", 3: "a12d", math.MaxInt: "a12d"}},
		{"a write across the end", full, w("a", 3, "12"), map[int]string{-1: "abcd", 0: "abcd", 1: "abc1", 2: "abc12", 9: "abc12"}},
		{"a write behind", full, w("a", 4, "12"), map[int]string{-1: "abcd", 0: "abcd", 1: "abcd1", 2: "abcd12", 9: "abcd12"}},
		{"a write of nothing", full, w("a", 2, ""), map[int]string{-1: "abcd", 0: "abcd", 1: "abcd", 9: "abcd"}},
		{"a write to an empty file", empty, w("a", 0, "12"), map[int]string{-1: "", 0: "", 1: "1", 2: "12", 9: "12"}},
		{"a write that makes a file", nil, w("a", 0, "12"), map[int]string{-1: "none", 0: "none", 1: "1", 2: "12", 9: "12"}},
		{"an empty file made", nil, w("a", 0, ""), map[int]string{-1: "none", 0: "none", 1: "none", 9: "none"}},
		{"a cut", full, c("a", 2), map[int]string{math.MinInt: "abcd", -1: "abcd", 0: "abcd", 1: "ab", 2: "ab", math.MaxInt: "ab"}},
		{"a cut to nothing", full, c("a", 0), map[int]string{-1: "abcd", 0: "abcd", 1: "", 9: ""}},
		{"a cut of nothing", full, c("a", 4), map[int]string{-1: "abcd", 0: "abcd", 1: "abcd", 9: "abcd"}},
		{"a removal", full, r("a"), map[int]string{math.MinInt: "abcd", -1: "abcd", 0: "abcd", 1: "none", 2: "none", math.MaxInt: "none"}},
		{"a removal of an empty file", empty, r("a"), map[int]string{-1: "", 0: "", 1: "none", 9: "none"}},
	} {
		for p, want := range x.behind {
			d := made(t, 100, append(slices.Clone(x.durable), x.change)...)
			d.Crash([]int{p, 1, 1})
			if want == "none" {
				hasNone(t, x.what, d.Read, "a")
				hasNone(t, x.what, d.Durable, "a")
				counts(t, x.what, d, 0, 0)
				continue
			}
			has(t, x.what, d.Read, "a", want)
			has(t, x.what, d.Durable, "a", want)
			counts(t, x.what, d, len(want), 0, "a")
		}
	}
}

// P4.4: a change that stands on one that was lost.
func TestCrashOfChangesThatHang(t *testing.T) {
	for _, x := range []struct {
		what  string
		steps []step
		picks []int
		want  string
	}{
		{"a write whose place isn't there", []step{w("a", 0, "abc"), w("a", 3, "d")}, []int{2, 1}, "a=ab;"},
		{"a write whose place is there, just", []step{w("a", 0, "abc"), w("a", 3, "d")}, []int{3, 1}, "a=abcd;"},
		{"a write without its file", []step{w("a", 0, "abc"), w("a", 1, "d")}, []int{0, 1}, ""},
		{"a write over what was torn", []step{w("a", 0, "abc"), w("a", 1, "dd")}, []int{1, 2}, "a=add;"},
		{"a cut without its file", []step{w("a", 0, "abc"), c("a", 1)}, []int{0, 1}, ""},
		{"a cut of what is shorter", []step{w("a", 0, "abc"), c("a", 2)}, []int{1, 1}, "a=a;"},
		{"a cut of what is as long", []step{w("a", 0, "abc"), c("a", 2)}, []int{2, 1}, "a=ab;"},
		{"a write behind a cut that is lost", []step{w("a", 0, "abc"), c("a", 1), w("a", 1, "x")}, []int{3, 0, 1}, "a=axc;"},
		{"a removal without its file", []step{w("a", 0, "abc"), r("a")}, []int{0, 1}, ""},
		{"a removal that is lost, and its file anew", []step{w("a", 0, "abc"), r("a"), w("a", 0, "x")}, []int{3, 0, 1}, "a=xbc;"},
		{"a removal, and its file anew", []step{w("a", 0, "abc"), r("a"), w("a", 0, "x")}, []int{3, 1, 1}, "a=x;"},
		{"a removal, and its file anew is lost", []step{w("a", 0, "abc"), r("a"), w("a", 0, "x")}, []int{3, 1, 0}, ""},
		{"fewer numbers than changes", []step{w("a", 0, "a"), w("b", 0, "b"), w("c", 0, "c")}, []int{1}, "a=a;"},
		{"more numbers than changes", []step{w("a", 0, "a"), w("b", 0, "b")}, []int{1, 0, 1, 1}, "a=a;"},
		{"the order of several files", []step{w("b", 0, "b1"), w("a", 0, "a1"), w("b", 2, "b2"), w("a", 2, "a2")}, []int{2, 2, 1, 0}, "a=a1;b=b1b;"},
		{"a sync within", []step{w("b", 0, "b1"), w("a", 0, "a1"), s("b"), w("a", 2, "a2"), w("b", 2, "b2")}, []int{2, 0, 1}, "a=a1;b=b1b;"},
	} {
		d := made(t, 100, x.steps...)
		d.Crash(x.picks)
		if l := seen(d); l.now != x.want || l.durable != x.want || l.pending != 0 || l.behind != x.want {
			t.Errorf("%s: %+v, want %q", x.what, l, x.want)
		}
	}
}

// P4.1 to P4.4: all rows of four steps out of a few, with all numbers for their changes.
func TestAllShortRows(t *testing.T) {
	steps := []step{w("a", 0, "abc"), w("a", 1, "xy"), w("a", 3, "z"), w("a", 0, ""), c("a", 0), c("a", 2), r("a"), s("a"), w("b", 0, "q"), s("b")}
	const long = 4
	rows := len(steps) * len(steps) * len(steps) * len(steps)
	for row := range rows {
		d, _ := New(6)
		m := newPlain(6)
		for range long {
			x := steps[row%len(steps)]
			row /= len(steps)
			if got, want := do(d, x), m.do(x); got != want {
				t.Fatalf("%v: error %d, want %d", x, got, want)
			}
		}
		alike(t, d, m, m.changes)
		n := len(m.changes)
		for p := range 1 << (2 * n) {
			picks := make([]int, n)
			for i := range picks {
				picks[i] = p >> (2 * i) & 3
			}
			torn, plainly := d.Copy(), m.copied()
			torn.Crash(picks)
			plainly.crash(picks)
			if got, want := told(torn.Read), plainly.seen().now; got != want || torn.Used() != plainly.used() {
				t.Fatalf("%v, crash %v: %q, want %q", m.changes, picks, got, want)
			}
		}
	}
}

func anyStep(r *rand.Rand) step {
	name := string("abc"[r.Intn(3)])
	data := strings.Repeat(string(rune('0'+r.Intn(10))), r.Intn(12))
	switch r.Intn(12) {
	case 0:
		return step{"wcrs"[r.Intn(4)], "A", r.Intn(3) - 1, ""}
	case 1, 2:
		return c(name, r.Intn(20)-1)
	case 3:
		return step{'r', name, 0, ""}
	case 4, 5:
		return step{'s', name, 0, ""}
	}
	return w(name, r.Intn(24)-1, data)
}

func anyPicks(r *rand.Rand) []int {
	picks := make([]int, r.Intn(20))
	for i := range picks {
		picks[i] = []int{0, -3, 1, r.Intn(10), math.MaxInt}[r.Intn(5)]
	}
	return picks
}

// P4.1 to P4.5, P4.7: long rows of anything, on disks and on copies of them that go ways of their own.
func TestLongRows(t *testing.T) {
	for seed := range 30 {
		r := rand.New(rand.NewSource(int64(seed)))
		first, _ := New(60)
		disks, plains := []*Disk{first}, []*plain{newPlain(60)}
		for i := range 1500 {
			at := r.Intn(len(disks))
			d, m := disks[at], plains[at]
			switch r.Intn(40) {
			case 0, 1:
				picks := anyPicks(r)
				d.Crash(picks)
				m.crash(picks)
			case 2:
				m.fails = r.Intn(3) == 0
				d.Fail(m.fails)
			case 3:
				m.room = 20 + r.Intn(50)
				d.Limit(m.room)
			case 4:
				to := r.Intn(min(len(disks)+1, 4))
				disks = slices.Replace(disks, to, min(to+1, len(disks)), d.Copy())
				plains = slices.Replace(plains, to, min(to+1, len(plains)), m.copied())
			default:
				x := anyStep(r)
				if got, want := do(d, x), m.do(x); got != want {
					t.Fatalf("seed %d, step %d, %v: error %d, want %d", seed, i, x, got, want)
				}
			}
			for k := range disks {
				alike(t, disks[k], plains[k], []int{seed, i, k})
			}
		}
	}
}

// P4.6: what was synced stands behind any crash, whatever was done to other files.
func TestWhatWasSyncedStands(t *testing.T) {
	for seed := range 300 {
		r := rand.New(rand.NewSource(int64(seed)))
		d, _ := New(200)
		for range r.Intn(30) {
			do(d, anyStep(r))
		}
		d.Fail(false)
		if d.Sync("a") != api.OK {
			continue
		}
		b, is := d.Read("a")
		for range r.Intn(30) {
			if x := anyStep(r); x.name != "a" {
				do(d, x)
			}
		}
		for range 3 {
			d.Crash(anyPicks(r))
			if got, ok := d.Read("a"); ok != is || !bytes.Equal(got, b) {
				t.Fatalf("seed %d: %q, %v was synced, %q, %v is there", seed, b, is, got, ok)
			}
		}
	}
}

// P4.5: a copy is just as the disk is, and what is done to one isn't done to the other.
func TestCopy(t *testing.T) {
	steps := []step{w("a", 0, "abcdef"), s("a"), w("b", 0, "xyz"), c("b", 2), w("a", 2, "--"), w("c", 0, "c"), s("c"), r("c")}
	for _, x := range []step{w("a", 0, "1"), w("a", 6, "1"), w("a", 3, "1234567"), c("a", 1), r("a"), s("a"), w("b", 2, "1"), s("b"), s("c"), w("c", 0, "C")} {
		d := made(t, 20, steps...)
		twin := d.Copy()
		was := seen(d)
		if seen(twin) != was {
			t.Errorf("a copy: %+v, not %+v", seen(twin), was)
		}
		allOK(t, twin, x, w("b", 0, "!"))
		twin.Limit(1)
		twin.Fail(true)
		if seen(d) != was {
			t.Errorf("%v of the copy: the disk is %+v, not %+v", x, seen(d), was)
		}
		twin = d.Copy()
		allOK(t, d, x, w("b", 0, "!"))
		d.Limit(1)
		d.Fail(true)
		if seen(twin) != was {
			t.Errorf("%v of the disk: the copy is %+v, not %+v", x, seen(twin), was)
		}
		d.Crash([]int{1, 1, 1, 1, 1, 1, 1})
		if seen(twin) != was {
			t.Errorf("a crash of the disk: the copy is %+v, not %+v", seen(twin), was)
		}
		allOK(t, twin, x, w("b", 0, "!"))
	}
	d := made(t, 3)
	d.Limit(2)
	refused(t, "a copy has the room", d.Copy(), w("a", 0, "abc"), api.ErrFull)
}

// P4.2, P4.7: the file now and the durable one go ways of their own, though one was made of the other.
func TestNowAndDurablePart(t *testing.T) {
	long := strings.Repeat("0123456789", 10)
	for _, back := range []bool{false, true} {
		for _, steps := range [][]step{
			{w("a", 0, "x")}, {w("a", 99, "xy")}, {w("a", 100, "xyz")}, {w("a", 100, "xyz"), w("a", 0, "x"), w("a", 101, "t")},
			{c("a", 50), w("a", 50, "xyz")}, {c("a", 0), w("a", 0, "xyz")}, {c("a", 100), w("a", 100, "xyz")},
			{w("a", 100, "xyz"), c("a", 101), w("a", 101, "t"), c("a", 99), w("a", 99, "--")}, {r("a"), w("a", 0, "xyz")},
		} {
			d := made(t, 1000, w("a", 0, long), s("a"))
			if back {
				d.Crash(nil)
			}
			m := newPlain(1000)
			m.now["a"], m.durable["a"] = long, long
			for _, x := range steps {
				allOK(t, d, x)
				m.do(x)
				alike(t, d, m, x)
			}
			d.Crash(nil)
			has(t, "none of the changes stands", d.Read, "a", long)
		}
	}
}

func fill(b []byte) {
	b = b[:cap(b)]
	for i := range b {
		b[i] = 0xee
	}
}

// P4.7: nothing handed in is changed, nor the room around it, nor kept.
func TestHandedIn(t *testing.T) {
	room := []byte("..abc..")
	data := room[2:5]
	picks := []int{1, -5, 7}
	d := made(t, 100)
	if d.Write("a", 0, data) != api.OK || d.Write("b", 0, data) != api.OK || d.Write("b", 3, []byte("def")) != api.OK || d.Sync("b") != api.OK || d.Write("b", 1, data) != api.OK {
		t.Fatal("writes")
	}
	if string(room) != "..abc.." {
		t.Errorf("Write made %q of its data and what lies around", room)
	}
	was := seen(d)
	fill(room)
	if seen(d) != was {
		t.Errorf("the disk keeps what was handed in: %+v, not %+v", seen(d), was)
	}
	d.Crash(picks)
	if !slices.Equal(picks, []int{1, -5, 7}) {
		t.Errorf("Crash made %v of its numbers", picks)
	}
	has(t, "behind a crash", d.Read, "a", "a")
	has(t, "behind a crash", d.Read, "b", "abcdef")
}

// P4.7: what is done to an answer, and to the room behind its end, touches neither the disk nor another answer.
func TestAnswersAreNew(t *testing.T) {
	d := made(t, 100, w("a", 0, "abc"), w("a", 3, "defgh"), s("a"), w("b", 0, "xyz"), c("b", 1), w("c", 0, ""))
	was := seen(d)
	for range 2 {
		again, _ := d.Read("a")
		for _, name := range []string{"a", "b", "c"} {
			now, _ := d.Read(name)
			durable, _ := d.Durable(name)
			fill(now)
			fill(durable)
		}
		names := d.Names()
		others := d.Names()
		clear(names[:cap(names)])
		if string(again) != "abcdefgh" || !slices.Equal(others, []string{"a", "b", "c"}) {
			t.Errorf("an answer was changed through another one: %q, %q", again, others)
		}
		if seen(d) != was {
			t.Fatalf("the disk was changed through an answer: %+v, not %+v", seen(d), was)
		}
		d.Crash(slices.Repeat([]int{9}, 9))
		allOK(t, d, w("c", 0, ""))
		was = seen(d)
	}
}

// P4.7: a nil disk.
func TestNilDisk(t *testing.T) {
	var d *Disk
	for _, x := range []step{w("a", 0, "x"), w("A", -1, ""), c("a", 0), c("A", -1), r("a"), r(""), s("a"), s("")} {
		refused(t, "a nil disk", d, x, api.ErrState)
	}
	for _, room := range []int{-1, 0, 5, math.MaxInt} {
		if e := d.Limit(room); e != api.ErrState {
			t.Errorf("Limit(%d) of a nil disk: error %d", room, e)
		}
	}
	d.Fail(true)
	d.Crash([]int{1})
	d.Crash(nil)
	refused(t, "a nil disk that failed", d, w("a", 0, "x"), api.ErrState)
	hasNone(t, "a nil disk", d.Read, "a")
	hasNone(t, "a nil disk", d.Durable, "a")
	counts(t, "a nil disk", d, 0, 0)
	if d.Copy() != nil {
		t.Error("a copy of a nil disk")
	}
}

// P1: many small changes and syncs of one file, while many others have changes, come to an end soon: neither the file nor the others' changes are gone through each time.
func TestManySyncs(t *testing.T) {
	const n = 100000
	d := made(t, 1<<30)
	for i := range n {
		name := "f-" + strings.Repeat("x", i%20)
		if d.Write(name, 0, []byte("0123456789")) != api.OK {
			t.Fatal("a write")
		}
	}
	for i := range n {
		if d.Write("log", 10*i, []byte("0123456789")) != api.OK || d.Sync("log") != api.OK {
			t.Fatal("a write that is synced")
		}
	}
	if d.Pending() != n || d.Used() != 10*n+200 {
		t.Errorf("pending %d, used %d", d.Pending(), d.Used())
	}
	d.Crash(slices.Repeat([]int{1}, n))
	if b, _ := d.Read("log"); !bytes.Equal(b, bytes.Repeat([]byte("0123456789"), n)) || d.Used() != 10*n+20 {
		t.Errorf("behind a crash: %d bytes, used %d", len(b), d.Used())
	}
}
