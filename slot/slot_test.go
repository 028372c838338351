package slot

import (
	"encoding/binary"
	"fmt"
	"hash/crc32"
	"maps"
	"math"
	"math/rand"
	"slices"
	"strings"
	"testing"
	"unsafe"

	"millrace/api"
	"millrace/disk"
)

// plain is the chapter's slot to the letter.
type plain struct {
	name    string
	now     map[string]string // the disk's files
	durable map[string]string
	value   string
	version int
	in      string // the file that the value is in: "a", "b", or "" for neither
	broken  bool
}

func plainFrame(payload string) string {
	sum := func(s string) string {
		return string(binary.LittleEndian.AppendUint32(nil, crc32.Checksum([]byte(s), crc32.MakeTable(crc32.Castagnoli))))
	}
	n := string(binary.LittleEndian.AppendUint32(nil, uint32(len(payload))))
	return n + sum(n) + payload + sum(payload)
}

func plainNumber(n uint64) string { return string(binary.AppendUvarint(nil, n)) }

func plainInt(n int) string {
	if n < 0 {
		return "\x00" + plainNumber(2*uint64(-(n+1))+1)
	}
	return "\x00" + plainNumber(2*uint64(n))
}

func plainText(s string) string { return "\x01" + plainNumber(uint64(len(s))) + s }

func plainFile(version int, value string) string {
	return plainFrame(plainInt(version) + plainText(value))
}

// plainHeld looks a file through for what it holds, and makes it again of that.
func plainHeld(b string) (string, int) {
	if len(b) < 12 {
		return "", 0
	}
	n := uint64(binary.LittleEndian.Uint32([]byte(b)))
	if n > 65536 || n+12 > uint64(len(b)) {
		return "", 0
	}
	payload := b[8 : 8+n]
	rest, is := strings.CutPrefix(payload, "\x00")
	twice, k := binary.Uvarint([]byte(rest))
	if !is || k <= 0 || twice%2 == 1 {
		return "", 0
	}
	rest, is = strings.CutPrefix(rest[k:], "\x01")
	size, k := binary.Uvarint([]byte(rest))
	if !is || k <= 0 || size != uint64(len(rest)-k) {
		return "", 0
	}
	version, value := int(twice/2), rest[k:]
	if version == 0 || !strings.HasPrefix(b, plainFile(version, value)) {
		return "", 0
	}
	return value, version
}

func (m *plain) open() {
	a, na := plainHeld(m.now[m.name+"-a"])
	b, nb := plainHeld(m.now[m.name+"-b"])
	m.broken = false
	switch {
	case na == 0 && nb == 0:
		m.value, m.version, m.in = "", 0, ""
	case na >= nb:
		m.value, m.version, m.in = a, na, "a"
	default:
		m.value, m.version, m.in = b, nb, "b"
	}
}

func (m *plain) used() int {
	n := 0
	for _, b := range m.now {
		n += len(b)
	}
	return n
}

// put takes what the disk is like as it finds it.
func (m *plain) put(value string, fails bool, room int) api.Errno {
	if m.broken {
		return api.ErrState
	}
	if len(value) > 60000 {
		return api.ErrLong
	}
	if m.version == math.MaxInt64 {
		return api.ErrExhausted
	}
	if fails {
		m.broken = true
		return api.ErrFault
	}
	to := "a"
	if m.in == "a" {
		to = "b"
	}
	f, old := plainFile(m.version+1, value), m.now[m.name+"-"+to]
	if more := len(f) - len(old); more > 0 && m.used()+more > room {
		m.broken = true
		return api.ErrFull
	}
	if len(old) > len(f) {
		f += old[len(f):]
	}
	m.now[m.name+"-"+to] = f
	m.durable[m.name+"-"+to] = f
	m.value, m.version, m.in = value, m.version+1, to
	return api.OK
}

func newDisk(t *testing.T, room int) *disk.Disk {
	t.Helper()
	d, e := disk.New(room)
	if e != api.OK {
		t.Fatalf("disk.New(%d): %d", room, e)
	}
	return d
}

func open(t *testing.T, d *disk.Disk, name string) *Slot {
	t.Helper()
	s, e := Open(d, name)
	if e != api.OK || s == nil {
		t.Fatalf("Open(%q): %v, %d", name, s, e)
	}
	return s
}

// plant makes a file just so, durable.
func plant(t *testing.T, d *disk.Disk, name, b string) {
	t.Helper()
	if e := d.Write(name, 0, []byte(b)); e != api.OK {
		t.Fatalf("Write(%q): %d", name, e)
	}
	if e := d.Cut(name, len(b)); e != api.OK {
		t.Fatalf("Cut(%q): %d", name, e)
	}
	if e := d.Sync(name); e != api.OK {
		t.Fatalf("Sync(%q): %d", name, e)
	}
}

func put(t *testing.T, s *Slot, value string, want api.Errno) {
	t.Helper()
	if e := s.Put(value); e != want {
		t.Fatalf("Put(%.20q of %d bytes): %d, want %d", value, len(value), e, want)
	}
}

func has(t *testing.T, s *Slot, value string, version int) {
	t.Helper()
	if v, n := s.Get(); v != value || n != version {
		t.Fatalf("Get: %.20q, %d, want %.20q, %d", v, n, value, version)
	}
}

func fileIs(t *testing.T, d *disk.Disk, name, want string) {
	t.Helper()
	for what, read := range map[string]func(string) ([]byte, bool){"now": d.Read, "durable": d.Durable} {
		if b, is := read(name); !is || string(b) != want {
			t.Fatalf("%s %s: % x, %v, want % x", name, what, b, is, want)
		}
	}
}

func notThere(t *testing.T, d *disk.Disk, name string) {
	t.Helper()
	if b, is := d.Read(name); is {
		t.Fatalf("%s is there: % x", name, b)
	}
}

// P7.1, P7.2: example 1.
func TestExample(t *testing.T) {
	d := newDisk(t, 1000)
	s := open(t, d, "n")
	has(t, s, "", 0)
	put(t, s, "x", api.OK)
	has(t, s, "x", 1)
	fileIs(t, d, "n-a", plainFrame("\x00\x02\x01\x01x"))
	notThere(t, d, "n-b")
	put(t, s, "y", api.OK)
	has(t, s, "y", 2)
	fileIs(t, d, "n-a", plainFrame("\x00\x02\x01\x01x"))
	fileIs(t, d, "n-b", plainFrame("\x00\x04\x01\x01y"))
	put(t, s, "z", api.OK)
	has(t, s, "z", 3)
	fileIs(t, d, "n-a", plainFrame("\x00\x06\x01\x01z"))
	fileIs(t, d, "n-b", plainFrame("\x00\x04\x01\x01y"))
	if names := d.Names(); !slices.Equal(names, []string{"n-a", "n-b"}) {
		t.Errorf("files %q", names)
	}
	for p := 0; p < 16; p++ {
		torn := d.Copy()
		torn.Write("n-a", p, []byte{255})
		torn.Sync("n-a")
		s = open(t, torn, "n")
		has(t, s, "y", 2)
		put(t, s, "q", api.OK)
		fileIs(t, torn, "n-a", plainFile(3, "q"))
		fileIs(t, torn, "n-b", plainFile(2, "y"))
	}
}

// P7.1: the errors of Open, and their order.
func TestOpenErrors(t *testing.T) {
	d := newDisk(t, 1000)
	for _, name := range []string{"", "abcdefghijklm", "N", "a1", "a-", "-", "a b", "a.b", "é", "a\x00", "`", "{", "@", "[", "aZ", "Za", strings.Repeat("a", 1000)} {
		if s, e := Open(d, name); s != nil || e != api.ErrArg {
			t.Errorf("Open(%q): %v, %d", name, s, e)
		}
		if s, e := Open(nil, name); s != nil || e != api.ErrState {
			t.Errorf("Open(nil, %q): %v, %d", name, s, e)
		}
	}
	for _, name := range []string{"a", "z", "az", "abcdefghijkl", "mnopqrstuvwx", "yz"} {
		if s, e := Open(nil, name); s != nil || e != api.ErrState {
			t.Errorf("Open(nil, %q): %v, %d", name, s, e)
		}
		s := open(t, d, name)
		put(t, s, name, api.OK)
		fileIs(t, d, name+"-a", plainFile(1, name))
		has(t, open(t, d, name), name, 1)
	}
}

// P7.1: Open only looks: it changes nothing of the disk, and works on one that fails or is full.
func TestOpenChangesNothing(t *testing.T) {
	d := newDisk(t, 1000)
	d.Write("n-a", 0, []byte(plainFile(4, "four")+"junk"))
	d.Write("n-b", 0, []byte(plainFile(5, "five")))
	d.Write("other", 0, []byte("o"))
	d.Fail(true)
	d.Limit(0)
	has(t, open(t, d, "n"), "five", 5)
	if n := d.Pending(); n != 3 {
		t.Errorf("%d changes, want 3", n)
	}
	if b, _ := d.Read("n-a"); string(b) != plainFile(4, "four")+"junk" {
		t.Errorf("n-a: % x", b)
	}
	if b, is := d.Durable("n-b"); is {
		t.Errorf("n-b is durable: % x", b)
	}
}

// files are what a file may hold; "none" stands for one that isn't there.
func files() map[string]string {
	whole := plainFile(7, "seven")
	turned := func(s string, at int) string {
		b := []byte(s)
		b[at] ^= 4
		return string(b)
	}
	return map[string]string{
		"none":             "",
		"empty":            "",
		"1":                plainFile(1, "one"),
		"7":                whole,
		"7 again":          plainFile(7, "SEVEN"),
		"7 empty":          plainFile(7, ""),
		"8 and more":       plainFile(8, "eight") + "more",
		"9 and 12":         plainFile(9, "nine") + plainFile(12, "twelve"),
		"300":              plainFile(300, "three hundred"),
		"last but one":     plainFile(math.MaxInt64-1, "late"),
		"last":             plainFile(math.MaxInt64, "last"),
		"0":                plainFile(0, "nought"),
		"-1":               plainFile(-1, "below"),
		"least":            plainFile(math.MinInt64, "least"),
		"cut":              whole[:len(whole)-1],
		"head":             whole[:8],
		"length":           turned(whole, 0),
		"first sum":        turned(whole, 4),
		"payload":          turned(whole, 12),
		"last sum":         turned(whole, len(whole)-1),
		"one behind":       "\x00" + plainFile(99, "shifted"),
		"torn, 12 behind":  plainFile(9, "nine")[:5] + plainFile(12, "twelve"),
		"noughts":          strings.Repeat("\x00", 40),
		"no items":         plainFrame(""),
		"an int":           plainFrame(plainInt(99)),
		"a text":           plainFrame(plainText("99")),
		"two ints":         plainFrame(plainInt(99) + plainInt(98)),
		"two texts":        plainFrame(plainText("a") + plainText("b")),
		"text, int":        plainFrame(plainText("a") + plainInt(99)),
		"int, text, int":   plainFrame(plainInt(99) + plainText("a") + plainInt(1)),
		"int, text, text":  plainFrame(plainInt(99) + plainText("a") + plainText("")),
		"int, list":        plainFrame(plainInt(99) + "\x02\x00"),
		"list, text":       plainFrame("\x02\x00" + plainText("a")),
		"list of both":     plainFrame("\x02\x02" + plainInt(99) + plainText("a")),
		"no message":       plainFrame(plainInt(99) + plainText("a") + "\x03"),
		"text cut":         plainFrame(plainInt(99) + "\x01\x05abc"),
		"number too long":  plainFrame("\x00\x86\x00" + plainText("a")),
		"60000 bytes":      plainFile(7, strings.Repeat("k", 60000)),
		"more than 60000":  plainFile(7, strings.Repeat("m", 60001)),
		"greatest frame":   plainFile(7, strings.Repeat("g", 65536-6)),
		"greater than one": plainFrame(plainInt(99) + plainText(strings.Repeat("g", 65536-6))),
	}
}

// P7.1, P7.2: whatever the two files hold, the slot has the greater version's value, and Put goes on from there.
func TestPlantedFiles(t *testing.T) {
	all := files()
	// All pairs copy a big file often: those stand with a few of the others only.
	big := func(name string) bool { return len(all[name]) > 1000 }
	for _, a := range slices.Sorted(maps.Keys(all)) {
		for _, b := range slices.Sorted(maps.Keys(all)) {
			if big(a) && big(b) {
				continue
			}
			d := newDisk(t, 1<<20)
			m := &plain{name: "n", now: map[string]string{}, durable: map[string]string{}}
			for file, name := range map[string]string{"n-a": a, "n-b": b, "n-c": "300", "n": "300", "m-a": "300", "nn-a": "300", "n-aa": "300"} {
				if name != "none" {
					plant(t, d, file, all[name])
					m.now[file], m.durable[file] = all[name], all[name]
				}
			}
			m.open()
			s := open(t, d, "n")
			if v, n := s.Get(); v != m.value || n != m.version {
				t.Errorf("%s, %s: %.20q, %d, want %.20q, %d", a, b, v, n, m.value, m.version)
				continue
			}
			for _, value := range []string{"a rather long value", "v"} {
				if e, want := s.Put(value), m.put(value, false, 1<<20); e != want {
					t.Errorf("%s, %s: Put(%q): %d, want %d", a, b, value, e, want)
				}
				same(t, fmt.Sprintf("%s, %s, %s", a, b, value), s, d, m)
			}
		}
	}
}

func TestPlainHeldOfPlantedFiles(t *testing.T) {
	// That the model itself takes just the right ones.
	right := map[string]bool{"1": true, "7": true, "7 again": true, "7 empty": true, "8 and more": true, "9 and 12": true, "300": true, "last but one": true, "last": true, "60000 bytes": true, "more than 60000": true, "greatest frame": true}
	for name, b := range files() {
		if _, n := plainHeld(b); n > 0 != right[name] {
			t.Errorf("%s: version %d", name, n)
		}
	}
	if n := len(plainFile(7, strings.Repeat("g", 65536-6))); n != 65536+12 {
		t.Errorf("the greatest frame has %d bytes", n)
	}
}

// same holds slot and disk against the model.
func same(t *testing.T, where string, s *Slot, d *disk.Disk, m *plain) {
	t.Helper()
	if v, n := s.Get(); v != m.value || n != m.version {
		t.Fatalf("%s: Get: %.20q, %d, want %.20q, %d", where, v, n, m.value, m.version)
	}
	if names, want := d.Names(), slices.Sorted(maps.Keys(m.now)); !slices.Equal(names, want) {
		t.Fatalf("%s: files %q, want %q", where, names, want)
	}
	for name, want := range m.now {
		if b, _ := d.Read(name); string(b) != want {
			t.Fatalf("%s: %s: % x, want % x", where, name, b, want)
		}
	}
	for _, name := range []string{m.name + "-a", m.name + "-b"} {
		want, there := m.durable[name]
		if b, is := d.Durable(name); is != there || string(b) != want {
			t.Fatalf("%s: %s durable: % x, %v, want % x, %v", where, name, b, is, want, there)
		}
	}
}

// P7.2: a value of 60000 bytes, one more, many more.
func TestLongValues(t *testing.T) {
	d := newDisk(t, 1<<20)
	s := open(t, d, "long")
	k := strings.Repeat("k", 60000)
	put(t, s, k, api.OK)
	has(t, s, k, 1)
	fileIs(t, d, "long-a", plainFile(1, k))
	for _, n := range []int{60001, 65536, 65537, 1 << 22} {
		put(t, s, strings.Repeat("l", n), api.ErrLong)
		has(t, s, k, 1)
	}
	notThere(t, d, "long-b")
	if n := d.Pending(); n != 0 {
		t.Errorf("%d changes", n)
	}
	put(t, s, "", api.OK) // ErrLong doesn't break it
	has(t, s, "", 2)
	has(t, open(t, d, "long"), "", 2)
	put(t, s, "short", api.OK)
	// What stood behind the short frame is there still, and counts nothing.
	fileIs(t, d, "long-a", plainFile(3, "short")+plainFile(1, k)[len(plainFile(3, "short")):])
	has(t, open(t, d, "long"), "short", 3)
	// With the greatest version too a value of 60000 bytes goes in.
	plant(t, d, "late-b", plainFile(math.MaxInt64-1, "x"))
	s = open(t, d, "late")
	put(t, s, k, api.OK)
	has(t, open(t, d, "late"), k, math.MaxInt64)
}

// P7.2: the version's end.
func TestExhausted(t *testing.T) {
	for _, in := range []string{"a", "b"} {
		d := newDisk(t, 1<<20)
		plant(t, d, "n-"+in, plainFile(math.MaxInt64-1, "late"))
		s := open(t, d, "n")
		has(t, s, "late", math.MaxInt64-1)
		put(t, s, "last", api.OK)
		has(t, s, "last", math.MaxInt64)
		other := map[string]string{"a": "b", "b": "a"}[in]
		for range 2 {
			put(t, s, "beyond", api.ErrExhausted)
			put(t, s, strings.Repeat("l", 60001), api.ErrLong) // named first
			d.Fail(true)
			put(t, s, "beyond", api.ErrExhausted) // ahead of the disk's error, and nothing is broken by it
			d.Fail(false)
		}
		fileIs(t, d, "n-"+in, plainFile(math.MaxInt64-1, "late"))
		fileIs(t, d, "n-"+other, plainFile(math.MaxInt64, "last"))
		has(t, open(t, d, "n"), "last", math.MaxInt64)
		if n := d.Pending(); n != 0 {
			t.Errorf("%d changes", n)
		}
	}
}

// P7.2: an error of the disk breaks the slot, which is as it was; opened again it goes on.
func TestBroken(t *testing.T) {
	for puts := range 4 {
		for _, want := range []api.Errno{api.ErrFault, api.ErrFull} {
			d := newDisk(t, 1000)
			s := open(t, d, "n")
			for i := range puts {
				put(t, s, fmt.Sprint(i), api.OK)
			}
			value, version := s.Get()
			a, _ := d.Read("n-a")
			b, _ := d.Read("n-b")
			d.Fail(want == api.ErrFault)
			d.Limit(d.Used() + 10)
			put(t, s, strings.Repeat("l", 60001), api.ErrLong)
			put(t, s, "a value that finds no room", want)
			has(t, s, value, version)
			d.Fail(false)
			d.Limit(1000)
			put(t, s, "again", api.ErrState)
			put(t, s, strings.Repeat("l", 60001), api.ErrState)
			has(t, s, value, version)
			for name, old := range map[string][]byte{"n-a": a, "n-b": b} {
				if b, _ := d.Read(name); string(b) != string(old) {
					t.Errorf("%s: % x, was % x", name, b, old)
				}
			}
			if n := d.Pending(); n != 0 {
				t.Errorf("%d changes", n)
			}
			if e := d.Copy().Write("n-a", 0, nil); e != api.OK {
				t.Errorf("the disk: %d", e)
			}
			s = open(t, d, "n")
			has(t, s, value, version)
			put(t, s, "again", api.OK)
			has(t, s, "again", version+1)
			has(t, open(t, d, "n"), "again", version+1)
		}
	}
}

// P7.2: over bytes that are there a full disk takes the frame.
func TestFullDisk(t *testing.T) {
	d := newDisk(t, 1000)
	s := open(t, d, "n")
	put(t, s, "aaaa", api.OK)
	put(t, s, "bbbb", api.OK)
	d.Limit(0)
	put(t, s, "cccc", api.OK)
	put(t, s, "dd", api.OK)
	put(t, s, "eeee", api.OK)
	put(t, s, "ffff", api.OK) // as long as what stood there once
	put(t, s, "gggg", api.OK)
	put(t, s, "hhhhh", api.ErrFull)
	has(t, s, "gggg", 7)
	has(t, open(t, d, "n"), "gggg", 7)
}

// P7.2, P7.3: a version whose number needs a byte more makes the frame longer.
func TestManyPuts(t *testing.T) {
	d := newDisk(t, 1000)
	s := open(t, d, "n")
	for i := 1; i <= 300; i++ {
		value := fmt.Sprint("value ", i)
		put(t, s, value, api.OK)
		has(t, s, value, i)
		if i%2 == 1 {
			fileIs(t, d, "n-a", plainFile(i, value))
		} else {
			fileIs(t, d, "n-b", plainFile(i, value))
		}
		crashed := d.Copy()
		crashed.Crash([]int{i})
		has(t, open(t, crashed, "n"), value, i)
	}
}

// P7.3: of a Put that was under way any beginning of the frame may stand; the value is the old one or the new one.
func TestCrashWithinAPut(t *testing.T) {
	values := []string{"", "x", "y", "a longer value", strings.Repeat("r", 300)}
	for _, older := range values {
		for _, old := range values {
			for _, value := range values {
				d := newDisk(t, 10000)
				s := open(t, d, "n")
				put(t, s, older, api.OK)
				put(t, s, old, api.OK)
				f := plainFile(3, value)
				for p := range len(f) + 2 {
					torn := d.Copy()
					torn.Write("n-a", 0, []byte(f))
					torn.Crash([]int{p})
					s := open(t, torn, "n")
					was := value
					if p < len(f) {
						was = old
						has(t, s, old, 2)
					} else {
						has(t, s, value, 3)
					}
					_, version := s.Get()
					put(t, s, "next", api.OK)
					torn.Crash(nil)
					has(t, open(t, torn, "n"), "next", version+1)
					// And it wasn't written over what was there.
					in := map[int]string{2: "n-b", 3: "n-a"}[version]
					if b, _ := torn.Read(in); !strings.HasPrefix(string(b), plainFile(version, was)) {
						t.Fatalf("%s was written over: % x", in, b)
					}
				}
			}
		}
	}
}

// P7.3: a Put that finds the disk refusing, and a crash.
func TestCrashBehindARefusedPut(t *testing.T) {
	for puts := range 5 {
		d := newDisk(t, 10000)
		s := open(t, d, "n")
		for i := range puts {
			put(t, s, fmt.Sprint(i), api.OK)
		}
		value, version := s.Get()
		d.Fail(true)
		put(t, s, "under way", api.ErrFault)
		for p := range 30 {
			crashed := d.Copy()
			crashed.Crash([]int{p, p, p})
			s := open(t, crashed, "n")
			if v, n := s.Get(); (v != value || n != version) && (v != "under way" || n != version+1) {
				t.Errorf("%d puts, %d: %q, %d", puts, p, v, n)
			}
		}
	}
}

// P7.4, P7.2: a nil slot.
func TestNil(t *testing.T) {
	var s *Slot
	has(t, s, "", 0)
	put(t, s, "x", api.ErrState)
	put(t, s, "", api.ErrState)
	put(t, s, strings.Repeat("l", 60001), api.ErrState)
}

// What is handed in isn't kept: here texts lie over bytes that are changed behind the call.
func TestNothingIsKept(t *testing.T) {
	d := newDisk(t, 1000)
	b := []byte("name")
	s := open(t, d, unsafe.String(&b[0], len(b)))
	copy(b, "zzzz")
	v := []byte("value")
	put(t, s, unsafe.String(&v[0], len(v)), api.OK)
	copy(v, "zzzzz")
	has(t, s, "value", 1)
	put(t, s, "w", api.OK)
	if names := d.Names(); !slices.Equal(names, []string{"name-a", "name-b"}) {
		t.Errorf("files %q", names)
	}
	fileIs(t, d, "name-a", plainFile(1, "value"))
}

// Two slots of one disk don't meet, nor does a slot touch other files.
func TestOthersStand(t *testing.T) {
	d := newDisk(t, 1000)
	d.Write("other", 0, []byte("o"))
	d.Write("nm-a", 0, []byte("p"))
	n, m := open(t, d, "n"), open(t, d, "m")
	for i := range 5 {
		put(t, n, fmt.Sprint("n", i), api.OK)
		put(t, m, fmt.Sprint("m", i), api.OK)
		has(t, n, fmt.Sprint("n", i), i+1)
		has(t, m, fmt.Sprint("m", i), i+1)
	}
	if n := d.Pending(); n != 2 {
		t.Errorf("%d changes, want those of the others: 2", n)
	}
	has(t, open(t, d, "n"), "n4", 5)
	has(t, open(t, d, "m"), "m4", 5)
}

// P7.1, P7.2: a slot knows its files as they were when it was opened, and what it put since.
func TestFilesChangedUnderneath(t *testing.T) {
	d := newDisk(t, 1000)
	s := open(t, d, "n")
	put(t, s, "x", api.OK)
	plant(t, d, "n-a", plainFile(10, "t"))
	has(t, s, "x", 1)
	put(t, s, "y", api.OK)
	has(t, s, "y", 2)
	fileIs(t, d, "n-a", plainFile(10, "t"))
	fileIs(t, d, "n-b", plainFile(2, "y"))
	has(t, open(t, d, "n"), "t", 10)
	d.Remove("n-b")
	has(t, s, "y", 2)
	put(t, s, "z", api.OK)
	has(t, s, "z", 3)
	fileIs(t, d, "n-a", plainFile(3, "z"))
	notThere(t, d, "n-b")
}

// Values are any bytes.
func TestAnyBytes(t *testing.T) {
	d := newDisk(t, 10000)
	s := open(t, d, "n")
	var all []byte
	for c := range 256 {
		all = append(all, byte(c))
	}
	for i, v := range []string{string(all), "\x00", "\xff\xfe", "", plainFile(99, "inside"), "ä\u2028"} {
		put(t, s, v, api.OK)
		has(t, s, v, i+1)
		has(t, open(t, d, "n"), v, i+1)
	}
}

// run is a slot on a disk beside its model.
type run struct {
	s     *Slot
	d     *disk.Disk
	m     *plain
	fails bool
	room  int
}

func newRun(t *testing.T) *run {
	r := &run{d: newDisk(t, 200), m: &plain{name: "n", now: map[string]string{}, durable: map[string]string{}}, room: 200}
	r.s = open(t, r.d, "n")
	return r
}

func (r *run) copy() *run {
	c, m, s := *r, *r.m, *r.s
	m.now, m.durable = maps.Clone(m.now), maps.Clone(m.durable)
	c.m, c.d, c.s = &m, r.d.Copy(), &s
	s.disk = c.d
	return &c
}

const kindsOfSteps = 12

func (r *run) step(t *testing.T, where string, kind, n int) {
	t.Helper()
	switch kind {
	case 0, 1, 2, 3:
		value := []string{"", fmt.Sprint("v", n), strings.Repeat(string(rune('a'+n%26)), n%40), strings.Repeat("L", 60001)}[kind]
		if e, want := r.s.Put(value), r.m.put(value, r.fails, r.room); e != want {
			t.Fatalf("%s: Put(%.20q): %d, want %d", where, value, e, want)
		}
	case 4:
		r.s = open(t, r.d, "n")
		r.m.open()
	case 5:
		r.d.Crash([]int{n % 20, n % 7})
		r.m.now = maps.Clone(r.m.durable)
		r.fails = false
	case 6, 7:
		r.fails = kind == 6
		r.d.Fail(r.fails)
	case 8:
		r.room = []int{0, 40, 60, 200, 1000}[n%5]
		r.d.Limit(r.room)
	case 9, 10: // a byte of a file is spoilt, durably
		name := "n-" + "ab"[kind-9:kind-8]
		if b := []byte(r.m.now[name]); len(b) > 0 && !r.fails {
			b[n%len(b)] ^= byte(1 + n%255)
			plant(t, r.d, name, string(b))
			r.m.now[name], r.m.durable[name] = string(b), string(b)
		}
	case 11: // a file goes, durably
		name := "n-" + "ab"[n%2:n%2+1]
		if _, is := r.m.now[name]; is && !r.fails {
			r.d.Remove(name)
			r.d.Sync(name)
			delete(r.m.now, name)
			delete(r.m.durable, name)
		}
	}
	same(t, where, r.s, r.d, r.m)
}

// P7.1, P7.2, P7.3: all rows of four steps.
func TestAllShortRows(t *testing.T) {
	var go4 func(r *run, row []int)
	go4 = func(r *run, row []int) {
		if len(row) == 4 {
			return
		}
		for kind := range kindsOfSteps {
			next := append(slices.Clone(row), kind)
			c := r.copy()
			c.step(t, fmt.Sprint(next), kind, 5*len(row)+1)
			go4(c, next)
		}
	}
	go4(newRun(t), nil)
}

// P7.1, P7.2, P7.3: long rows.
func TestLongRows(t *testing.T) {
	random := rand.New(rand.NewSource(7))
	for row := range 300 {
		r := newRun(t)
		for i := range 200 {
			kind := random.Intn(kindsOfSteps)
			if random.Intn(2) == 0 {
				kind = random.Intn(3)
			}
			r.step(t, fmt.Sprintf("row %d, step %d, kind %d", row, i, kind), kind, random.Intn(1000))
		}
	}
}

// P7.3: behind any crash a slot has the value of the last Put that answered OK.
func TestKeptBehindCrashes(t *testing.T) {
	random := rand.New(rand.NewSource(73))
	for range 300 {
		d := newDisk(t, 10000)
		s, last, version := open(t, d, "n"), "", 0
		for range 60 {
			d.Write("other", 0, []byte("more")) // a change that isn't durable
			d.Fail(random.Intn(8) == 0)
			value := strings.Repeat("v", random.Intn(30)) + fmt.Sprint(random.Int())
			if s.Put(value) == api.OK {
				last, version = value, version+1
			}
			if random.Intn(4) == 0 {
				d.Crash([]int{random.Intn(40), random.Intn(40)})
				s = open(t, d, "n")
			}
			has(t, s, last, version)
		}
	}
}

// P1: whatever is handed in, no call panics.
func TestNoPanic(t *testing.T) {
	random := rand.New(rand.NewSource(1))
	for range 3000 {
		d := newDisk(t, 1<<20)
		for _, name := range []string{"n-a", "n-b"} {
			b := make([]byte, random.Intn(40))
			random.Read(b)
			payload := string(b)
			if random.Intn(2) == 0 {
				payload = plainInt(random.Intn(100)-20) + payload
			}
			plant(t, d, name, plainFrame(payload))
		}
		s := open(t, d, "n")
		_, version := s.Get()
		put(t, s, "x", api.OK)
		has(t, s, "x", version+1)
	}
}
