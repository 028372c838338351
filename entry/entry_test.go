package entry

import (
	"encoding/binary"
	"math"
	"math/rand"
	"slices"
	"strings"
	"testing"
	"unsafe"

	"millrace/api"
)

// The chapter's bytes to the letter, without layer 3's help. (The library's signed numbers are the chapter's: 2 N, or -2 N - 1.)
func ofInt(n int) string { return "\x00" + string(binary.AppendVarint(nil, int64(n))) }

func ofInts(ns ...int) string {
	var b strings.Builder
	for _, n := range ns {
		b.WriteString(ofInt(n))
	}
	return b.String()
}

func ofText(s string) string {
	return "\x01" + string(binary.AppendUvarint(nil, uint64(len(s)))) + s
}

func ofList(items ...string) string {
	return "\x02" + string(binary.AppendUvarint(nil, uint64(len(items)))) + strings.Join(items, "")
}

// ofOp is an operator's list; each of its parts can be exchanged for another one.
func ofOp(parts ...string) string { return ofList(parts...) }

func opParts(op api.Op) []string {
	var in []string
	for _, n := range op.In {
		in = append(in, ofInt(n))
	}
	return []string{ofInt(op.Kind), ofList(in...), ofInt(op.Arg), ofInt(int(op.Num)), ofInt(op.Rounds), ofInt(op.Test), ofInt(int(op.Lim))}
}

func byHand(e api.Entry) string {
	switch e.Kind {
	case 0:
		return ""
	case 1:
		r := e.Rec
		return ofInts(1, r.Producer, r.Seq, r.Part) + ofText(r.Key) + ofInt(int(r.Val))
	case 3:
		var ops []string
		for _, op := range e.Graph.Ops {
			ops = append(ops, ofOp(opParts(op)...))
		}
		return ofInt(3) + ofList(ops...)
	}
	return ofInts(e.Kind, e.N)
}

func sameOp(a, b api.Op) bool {
	return slices.Equal(a.In, b.In) && a.Kind == b.Kind && a.Arg == b.Arg && a.Num == b.Num && a.Rounds == b.Rounds && a.Test == b.Test && a.Lim == b.Lim
}

func same(a, b api.Entry) bool {
	return a.Kind == b.Kind && a.Rec == b.Rec && a.N == b.N && slices.EqualFunc(a.Graph.Ops, b.Graph.Ops, sameOp)
}

func deepCopy(e api.Entry) api.Entry {
	e.Graph.Ops = slices.Clone(e.Graph.Ops)
	for i := range e.Graph.Ops {
		e.Graph.Ops[i].In = slices.Clone(e.Graph.Ops[i].In)
	}
	return e
}

func record(producer, seq, part int, key string, val uint32) api.Entry {
	return api.Entry{Kind: 1, Rec: api.Record{Producer: producer, Seq: seq, Part: part, Key: key, Val: val}}
}

func numbered(kind, n int) api.Entry { return api.Entry{Kind: kind, N: n} }

func deploy(ops ...api.Op) api.Entry { return api.Entry{Kind: 3, Graph: api.Graph{Ops: ops}} }

// fullOp has another number in each field.
func fullOp() api.Op {
	return api.Op{Kind: 5, In: []int{6, 7}, Arg: 8, Num: 9, Rounds: 10, Test: 11, Lim: 12}
}

func ops(n int) []api.Op { return slices.Repeat([]api.Op{{Kind: 2, In: []int{1}}}, n) }

func inForm() []api.Entry {
	some := []api.Entry{
		{},
		{Graph: api.Graph{Ops: []api.Op{}}},
		record(0, 0, 0, "", 0),
		record(1, 2, 3, "key", 4),
		record(63, math.MaxInt, 7, strings.Repeat("k", 32), math.MaxUint32),
		record(62, 1<<62, 6, "\x00\xff\x80", 1<<31),
		record(0, 1, 0, "", 0),
		deploy(),
		deploy(api.Op{}),
		deploy(fullOp()),
		deploy(api.Op{Kind: 1, Arg: -1}, api.Op{Kind: 8, In: []int{0}}),
		deploy(api.Op{Kind: math.MinInt, In: []int{math.MaxInt, math.MinInt}, Arg: math.MinInt, Num: math.MaxUint32, Rounds: math.MaxInt, Test: math.MinInt, Lim: math.MaxUint32}),
		deploy(api.Op{Kind: 9, In: []int{-1}, Arg: 99, Num: 1 << 31, Rounds: -5, Test: 77, Lim: 1<<31 - 1}, api.Op{In: []int{}}, fullOp()),
		deploy(ops(15)...),
		deploy(ops(16)...),
		deploy(slices.Repeat([]api.Op{{Kind: math.MinInt, In: []int{math.MinInt, math.MinInt}, Arg: math.MinInt, Num: math.MaxUint32, Rounds: math.MinInt, Test: math.MinInt, Lim: math.MaxUint32}}, 16)...),
	}
	for _, kind := range []int{2, 4, 5} {
		for _, n := range []int{0, 1, 63, 64, 127, 128, 1 << 40, math.MaxInt} {
			some = append(some, numbered(kind, n))
		}
	}
	return some
}

func notInForm() map[string]api.Entry {
	long := deploy(ops(15)...)
	long.Graph.Ops = append(long.Graph.Ops, api.Op{In: []int{0, 0, 0}})
	wrong := map[string]api.Entry{
		"a kind below":                 {Kind: -1},
		"a kind above":                 {Kind: 6},
		"a kind above, a number":       {Kind: 6, N: 1},
		"the least kind":               {Kind: math.MinInt},
		"the greatest kind":            {Kind: math.MaxInt},
		"a kind of 32 bits more":       {Kind: 1<<32 + 2, N: 1},
		"a producer below":             record(-1, 0, 0, "k", 0),
		"a producer above":             record(64, 0, 0, "k", 0),
		"the least producer":           record(math.MinInt, 0, 0, "k", 0),
		"the greatest producer":        record(math.MaxInt, 0, 0, "k", 0),
		"a number below":               record(0, -1, 0, "k", 0),
		"the least number":             record(0, math.MinInt, 0, "k", 0),
		"a partition below":            record(0, 0, -1, "k", 0),
		"a partition above":            record(0, 0, 8, "k", 0),
		"the greatest partition":       record(0, 0, math.MaxInt, "k", 0),
		"a key too long":               record(0, 0, 0, strings.Repeat("k", 33), 0),
		"a key far too long":           record(0, 0, 0, strings.Repeat("k", 1<<20), 0),
		"17 operators":                 deploy(ops(17)...),
		"5000 operators":               deploy(ops(5000)...),
		"three inputs":                 deploy(api.Op{Kind: 6, In: []int{0, 0, 0}}),
		"three inputs of the last one": long,
		"very many inputs":             deploy(api.Op{}, api.Op{In: make([]int, 1<<17)}, api.Op{}),
	}
	for name, add := range map[string]func(*api.Entry){
		"a number":            func(e *api.Entry) { e.N = 1 },
		"a number below":      func(e *api.Entry) { e.N = -1 },
		"a producer":          func(e *api.Entry) { e.Rec.Producer = 1 },
		"a record's number":   func(e *api.Entry) { e.Rec.Seq = 1 },
		"a partition":         func(e *api.Entry) { e.Rec.Part = 1 },
		"a key":               func(e *api.Entry) { e.Rec.Key = "k" },
		"a value":             func(e *api.Entry) { e.Rec.Val = 1 },
		"an operator of zero": func(e *api.Entry) { e.Graph.Ops = []api.Op{{}} },
		"17 operators":        func(e *api.Entry) { e.Graph.Ops = ops(17) },
	} {
		for kind, field := range []string{"", "record", "number", "operator", "number", "number"} {
			switch {
			case field == "number" && name == "a number":
				continue
			case field == "operator" && name == "an operator of zero":
				continue
			case field == "record" && strings.Contains("a producer, a record's number, a partition, a key, a value", name):
				continue
			}
			e := api.Entry{Kind: kind}
			add(&e)
			wrong["kind "+ofKind(kind)+": "+name] = e
		}
	}
	for _, kind := range []int{2, 4, 5} {
		wrong["kind "+ofKind(kind)+": the least number"] = numbered(kind, math.MinInt)
	}
	return wrong
}

func ofKind(kind int) string { return string(rune('0' + kind)) }

func isText(t *testing.T, e api.Entry, want string) {
	t.Helper()
	if !Good(e) {
		t.Errorf("Good(%v) = false", e)
	}
	if s, err := Encode(e); s != want || err != api.OK {
		t.Errorf("Encode of %v: %q, %d; want %q", e, s, err, want)
	}
	if got, err := Decode(want); !same(got, e) || err != api.OK {
		t.Errorf("Decode of %q: %v, %d; want %v", want, got, err, e)
	}
}

func noText(t *testing.T, what, s string) {
	t.Helper()
	if got, err := Decode(s); !same(got, api.Entry{}) || err != api.ErrForm {
		t.Errorf("Decode of %s, %.80q: %v, %d; want none, 3", what, s, got, err)
	}
}

// P9.1, the chapter's examples, and a text of each kind, byte by byte.
func TestTexts(t *testing.T) {
	isText(t, api.Entry{}, "")
	isText(t, numbered(api.ESeal, 3), "\x00\x04\x00\x06")
	isText(t, numbered(api.EDecide, 1), "\x00\x08\x00\x02")
	isText(t, numbered(api.EKeep, 64), "\x00\x0a\x00\x80\x01")
	isText(t, record(1, 2, 3, "ab", 4), "\x00\x02\x00\x02\x00\x04\x00\x06\x01\x02ab\x00\x08")
	isText(t, deploy(), "\x00\x06\x02\x00")
	isText(t, deploy(fullOp()), "\x00\x06\x02\x01\x02\x07\x00\x0a\x02\x02\x00\x0c\x00\x0e\x00\x10\x00\x12\x00\x14\x00\x16\x00\x18")
	isText(t, deploy(api.Op{Kind: 1, Arg: -1}, api.Op{Kind: 8, In: []int{0}}),
		"\x00\x06\x02\x02"+"\x02\x07\x00\x02\x02\x00\x00\x01\x00\x00\x00\x00\x00\x00\x00\x00"+"\x02\x07\x00\x10\x02\x01\x00\x00\x00\x00\x00\x00\x00\x00\x00\x00\x00\x00")
	noText(t, "ESeal of -1", "\x00\x04\x00\x01")
	noText(t, "the kind 0", "\x00\x00")
}

// P9.1, P9.2: entries in form, at the edges too.
func TestInForm(t *testing.T) {
	for _, e := range inForm() {
		isText(t, e, byHand(e))
	}
	for producer := range 64 {
		for part := range 8 {
			e := record(producer, producer*part, part, strings.Repeat("\xfe", producer/2), uint32(part))
			isText(t, e, byHand(e))
		}
	}
	for n := range 33 {
		e := record(0, 0, 0, strings.Repeat("\x00", n), 1)
		isText(t, e, byHand(e))
	}
	for n := range 17 {
		e := deploy(ops(n)...)
		isText(t, e, byHand(e))
	}
}

// P9.1: entries that aren't in form have no text, and what would be theirs is nobody's.
func TestNotInForm(t *testing.T) {
	for what, e := range notInForm() {
		if Good(e) {
			t.Errorf("Good of %s: true", what)
		}
		if s, err := Encode(e); s != "" || err != api.ErrForm {
			t.Errorf("Encode of %s: %q, %d; want ErrForm", what, s, err)
		}
		if bare := onlyNamed(e); e.Kind != 0 && same(bare, e) {
			noText(t, what, byHand(e))
		}
	}
}

// onlyNamed takes away the fields that the kind doesn't name.
func onlyNamed(e api.Entry) api.Entry {
	switch e.Kind {
	case 0:
		return api.Entry{}
	case 1:
		return api.Entry{Kind: 1, Rec: e.Rec}
	case 3:
		return api.Entry{Kind: 3, Graph: e.Graph}
	}
	return api.Entry{Kind: e.Kind, N: e.N}
}

// P9.1: bytes that are no message at all, whatever layer 3 says of them.
func TestNoMessage(t *testing.T) {
	for what, s := range map[string]string{
		"a wrong kind of item":   "\x03",
		"a wrong number":         "\x00\x80\x00",
		"a cut number":           "\x00",
		"a cut text":             "\x01\x05a",
		"a cut list":             "\x02\x01",
		"too many bytes":         strings.Repeat("\x00", 65537),
		"far too many bytes":     strings.Repeat("\x00\x04", 1<<20),
		"too many items":         strings.Repeat("\x00\x04", 4097),
		"too deep":               ofInt(3) + strings.Repeat("\x02\x01", 8) + "\x00\x00",
		"ESeal and a wrong kind": "\x00\x04\x00\x06\x03",
		"ESeal, a text too long": "\x00\x04" + ofText(strings.Repeat("a", 65536)),
		"ESeal cut":              "\x00\x04\x00",
		"ESeal, a last digit 0":  "\x00\x04\x00\x86\x00",
		"a kind's last digit 0":  "\x00\x84\x00\x00\x06",
	} {
		noText(t, what, s)
	}
}

// badItems are items that stand for no number of an entry.
func badItems() map[string]string {
	return map[string]string{"an empty text": ofText(""), "a text": ofText("a"), "an empty list": ofList(), "a list of a number": ofList(ofInt(1))}
}

// spoilt answers a row of parts with one of them exchanged, taken away, doubled.
func spoilt(parts []string, at int, by string) (string, string, string) {
	changed := slices.Clone(parts)
	changed[at] = by
	gone := slices.Delete(slices.Clone(parts), at, at+1)
	twice := slices.Insert(slices.Clone(parts), at, parts[at])
	return strings.Join(changed, ""), strings.Join(gone, ""), strings.Join(twice, "")
}

// P9.1: a message of the wrong shape: at each place the wrong kind of item, one too few, one too many.
func TestWrongShapes(t *testing.T) {
	rows := [][]string{
		{ofInt(2), ofInt(1)}, {ofInt(4), ofInt(1)}, {ofInt(5), ofInt(1)},
		{ofInt(1), ofInt(1), ofInt(1), ofInt(1), ofText("k"), ofInt(1)},
		{ofInt(3), ofList(ofOp(opParts(fullOp())...))},
	}
	for _, row := range rows {
		if _, err := Decode(strings.Join(row, "")); err != api.OK {
			t.Errorf("Decode of %q: %d", row, err)
		}
		for at, part := range row {
			for what, bad := range badItems() {
				if bad[0] == part[0] {
					continue
				}
				changed, gone, twice := spoilt(row, at, bad)
				noText(t, what, changed)
				noText(t, "one too few", gone)
				noText(t, "one too many", twice)
			}
			changed, _, _ := spoilt(row, at, ofInt(1))
			if part[0] != 0 {
				noText(t, "a number for something else", changed)
			}
		}
		for _, behind := range []string{ofInt(0), ofText(""), ofList()} {
			noText(t, "something behind", strings.Join(row, "")+behind)
		}
		noText(t, "something ahead", ofInt(0)+strings.Join(row, ""))
		noText(t, "all in a list", ofList(row...))
	}
	for kind := range 6 {
		noText(t, "a kind alone", ofInt(kind))
		noText(t, "a kind as a text", ofText(ofKind(kind))+ofInt(1))
		noText(t, "the kind 0, and more", ofInt(0)+ofInt(kind))
	}
	for _, kind := range []int{-6, -2, -1, 0, 6, 7, 1 << 32, 1<<32 + 2, math.MinInt, math.MinInt + 2, math.MaxInt} {
		noText(t, "no kind, a number", ofInts(kind, 1))
		noText(t, "no kind, a record's fields", ofInts(kind, 1, 1, 1)+ofText("k")+ofInt(1))
		noText(t, "no kind, a graph", ofInt(kind)+ofList())
	}
	for _, one := range []string{ofText(""), ofList(), ofList(ofInt(2), ofInt(1))} {
		noText(t, "no kind", one)
	}
}

// P9.1: an operator of the wrong shape, alone and among right ones.
func TestWrongOperators(t *testing.T) {
	right := ofOp(opParts(fullOp())...)
	wrong := func(what, op string) {
		t.Helper()
		noText(t, what, ofInt(3)+ofList(op))
		noText(t, what+" ahead", ofInt(3)+ofList(op, right))
		noText(t, what+" behind", ofInt(3)+ofList(right, op))
	}
	parts := opParts(fullOp())
	for at, part := range parts {
		for what, bad := range badItems() {
			if bad[0] == part[0] {
				continue
			}
			changed := slices.Clone(parts)
			changed[at] = bad
			wrong(what, ofOp(changed...))
		}
		wrong("one too few", ofOp(slices.Delete(slices.Clone(parts), at, at+1)...))
		wrong("one too many", ofOp(slices.Insert(slices.Clone(parts), at, part)...))
	}
	for what, in := range map[string]string{
		"a number for a list": ofInt(0), "a text for a list": ofText(""), "a long text for a list": ofText("abc"),
		"a text among the inputs": ofList(ofText("a")), "an empty text behind an input": ofList(ofInt(1), ofText("")),
		"an empty list as an input": ofList(ofList()), "a list as an input": ofList(ofList(ofInt(1)), ofInt(1)),
		"three inputs": ofList(ofInt(0), ofInt(0), ofInt(0)), "many inputs": ofList(slices.Repeat([]string{ofInt(0)}, 3000)...),
	} {
		changed := slices.Clone(parts)
		changed[1] = in
		wrong(what, ofOp(changed...))
	}
	for _, op := range []string{ofInt(0), ofInt(7), ofText(""), ofText("1234567"), ofList(), ofList(right), strings.Join(parts, "")} {
		wrong("no operator", op)
	}
	noText(t, "17 operators", ofInt(3)+ofList(slices.Repeat([]string{right}, 17)...))
	noText(t, "400 operators", ofInt(3)+ofList(slices.Repeat([]string{right}, 400)...))
	noText(t, "operators without a list", ofInt(3)+right+right)
}

// P9.1: numbers that no field holds.
func TestWrongNumbers(t *testing.T) {
	for _, n := range []int{-1, math.MinInt, math.MinInt + 1, 1 << 32, 1<<32 + 1, 1<<33 - 1, -1 << 32, math.MaxInt} {
		noText(t, "a value of more than 32 bits", ofInts(1, 0, 0, 0)+ofText("k")+ofInt(n))
		for at := range 7 {
			parts := opParts(fullOp())
			if at == 1 {
				continue
			}
			parts[at] = ofInt(n)
			s := ofInt(3) + ofList(ofOp(parts...))
			if at == 3 || at == 6 {
				noText(t, "an operator's number of more than 32 bits", s)
			} else if e, err := Decode(s); err != api.OK || byHand(e) != s {
				t.Errorf("Decode of %q: %v, %d", s, e, err)
			}
		}
	}
	for _, kind := range []int{2, 4, 5} {
		for _, n := range []int{-1, -2, math.MinInt} {
			noText(t, "a number below 0", ofInts(kind, n))
		}
	}
}

func pick(r *rand.Rand, some ...int) int { return some[r.Intn(len(some))] }

func anyInt(r *rand.Rand) int { return int(r.Uint64()) >> r.Intn(64) }

func randomOp(r *rand.Rand) api.Op {
	op := api.Op{Kind: pick(r, 1, 2, 8, anyInt(r)), Arg: anyInt(r), Num: r.Uint32() >> r.Intn(32), Rounds: anyInt(r), Test: pick(r, 0, anyInt(r)), Lim: r.Uint32() >> r.Intn(32)}
	for range r.Intn(3) {
		op.In = append(op.In, anyInt(r))
	}
	return op
}

func randomEntry(r *rand.Rand) api.Entry {
	switch kind := r.Intn(6); kind {
	case 0:
		return api.Entry{}
	case 1:
		key := make([]byte, r.Intn(33))
		r.Read(key)
		return record(r.Intn(64), int(r.Uint64()>>(1+r.Intn(63))), r.Intn(8), string(key), r.Uint32()>>r.Intn(32))
	case 3:
		var some []api.Op
		for range r.Intn(17) {
			some = append(some, randomOp(r))
		}
		return deploy(some...)
	default:
		return numbered(kind, int(r.Uint64()>>(1+r.Intn(63))))
	}
}

// P9.2: what is encoded is decoded.
func TestEncodedIsDecoded(t *testing.T) {
	r := rand.New(rand.NewSource(1))
	for range 20000 {
		e := randomEntry(r)
		isText(t, e, byHand(e))
	}
}

// letter reads a text to the letter of the chapter: each call takes something off the front; what isn't there makes it wrong for good. Numbers with more digits than they need are found at the end, when the whole is written again by hand.
type letter struct {
	rest  string
	wrong bool
}

func (l *letter) begins(kind byte) {
	l.wrong = l.wrong || l.rest == "" || l.rest[0] != kind
	if !l.wrong {
		l.rest = l.rest[1:]
	}
}

func (l *letter) count(most int) int {
	n, k := binary.Uvarint([]byte(l.rest))
	l.wrong = l.wrong || k <= 0 || n > uint64(most)
	if l.wrong {
		return 0
	}
	l.rest = l.rest[k:]
	return int(n)
}

func (l *letter) number() int {
	l.begins(0)
	n, k := binary.Varint([]byte(l.rest))
	l.wrong = l.wrong || k <= 0
	if l.wrong {
		return 0
	}
	l.rest = l.rest[k:]
	return int(n)
}

func (l *letter) within(least, most int) int {
	n := l.number()
	l.wrong = l.wrong || n < least || n > most
	return n
}

func (l *letter) key() string {
	l.begins(1)
	n := l.count(32)
	l.wrong = l.wrong || n > len(l.rest)
	if l.wrong {
		return ""
	}
	s := l.rest[:n]
	l.rest = l.rest[n:]
	return s
}

func (l *letter) op() api.Op {
	var op api.Op
	l.begins(2)
	l.wrong = l.count(7) != 7 || l.wrong
	op.Kind = l.number()
	l.begins(2)
	for range l.count(2) {
		op.In = append(op.In, l.number())
	}
	op.Arg = l.number()
	op.Num = uint32(l.within(0, math.MaxUint32))
	op.Rounds = l.number()
	op.Test = l.number()
	op.Lim = uint32(l.within(0, math.MaxUint32))
	return op
}

func (l *letter) entry() (api.Entry, bool) {
	var e api.Entry
	all := l.rest
	if all == "" {
		return e, true
	}
	e.Kind = l.within(1, 5)
	switch e.Kind {
	case 1:
		e.Rec.Producer = l.within(0, 63)
		e.Rec.Seq = l.within(0, math.MaxInt)
		e.Rec.Part = l.within(0, 7)
		e.Rec.Key = l.key()
		e.Rec.Val = uint32(l.within(0, math.MaxUint32))
	case 3:
		l.begins(2)
		for range l.count(16) {
			e.Graph.Ops = append(e.Graph.Ops, l.op())
		}
	default:
		e.N = l.within(0, math.MaxInt)
	}
	if l.wrong || l.rest != "" || byHand(e) != all {
		return api.Entry{}, false
	}
	return e, true
}

// asWritten asks whether Decode says what the chapter's letter says, and, P9.2, whether what is decoded is encoded to the same text.
func asWritten(t *testing.T, s string) {
	t.Helper()
	l := letter{rest: s}
	want, is := l.entry()
	wantErr := api.OK
	if !is {
		wantErr = api.ErrForm
	}
	e, err := Decode(s)
	if err != wantErr || !same(e, want) {
		t.Errorf("Decode of %q: %v, %d; want %v, %d", s, e, err, want, wantErr)
	}
	if err != api.OK {
		return
	}
	if again, err := Encode(e); again != s || err != api.OK || !Good(e) {
		t.Errorf("Encode of what %q was decoded to: %q, %d", s, again, err)
	}
}

// P9.1, P9.2: all texts of up to two bytes, and of up to seven among those that mean something.
func TestShortTexts(t *testing.T) {
	for x := range 256 {
		asWritten(t, string([]byte{byte(x)}))
		for y := range 256 {
			asWritten(t, string([]byte{byte(x), byte(y)}))
			asWritten(t, "\x00\x04"+string([]byte{byte(x), byte(y)}))
			asWritten(t, "\x00\x06"+string([]byte{byte(x), byte(y)}))
			asWritten(t, string([]byte{byte(x), byte(y)})+"\x00\x06")
		}
	}
	var longer func(s string)
	longer = func(s string) {
		asWritten(t, s)
		if len(s) == 7 || t.Failed() {
			return
		}
		for _, x := range "\x00\x01\x02\x04\x06\x0a\x0c" {
			longer(s + string(x))
		}
	}
	longer("")
}

// P9.1, P9.2: texts with some bytes changed, taken away, put in between.
func TestSpoiltTexts(t *testing.T) {
	r := rand.New(rand.NewSource(2))
	good := 0
	for range 60000 {
		b := []byte(byHand(randomEntry(r)))
		for range 1 + r.Intn(2) {
			if len(b) == 0 {
				b = append(b, byte(r.Intn(3)))
			}
			at := r.Intn(len(b))
			switch r.Intn(5) {
			case 0:
				b[at] ^= 1 << r.Intn(8)
			case 1:
				b[at] = byte(r.Intn(20))
			case 2:
				b = slices.Insert(b, at, byte(r.Intn(256)))
			case 3:
				b = slices.Delete(b, at, at+1)
			case 4:
				b = b[:at]
			}
		}
		if _, err := Decode(string(b)); err == api.OK {
			good++
		}
		asWritten(t, string(b))
	}
	if good < 1000 || good > 59000 {
		t.Errorf("of 60000 spoilt texts %d are texts still: the test asks little", good)
	}
}

// P9.1, P9.2: texts made of parts that mean something, most of them nearly right.
func TestTextsOfParts(t *testing.T) {
	r := rand.New(rand.NewSource(3))
	some := []string{ofInt(0), ofInt(1), ofInt(-1), ofInt(1 << 32), ofInt(math.MaxUint32), ofText(""), ofText("k"), ofText(strings.Repeat("k", 33)), ofList(), ofList(ofInt(1)), ofList(ofInt(1), ofInt(2)), ofList(ofInt(1), ofInt(2), ofInt(3)), ofList(ofText(""))}
	for range 60000 {
		parts := opParts(randomOp(r))
		if r.Intn(3) > 0 {
			parts[r.Intn(7)] = some[r.Intn(len(some))]
		}
		asWritten(t, ofInt(3)+ofList(ofOp(parts...)))
		row := []string{ofInt(1), ofInt(r.Intn(66)), ofInt(r.Intn(1000)), ofInt(r.Intn(9)), ofText(strings.Repeat("a", r.Intn(35))), ofInt(r.Intn(1 << 33))}
		if r.Intn(3) > 0 {
			row[r.Intn(6)] = some[r.Intn(len(some))]
		}
		asWritten(t, strings.Join(row, ""))
	}
}

// P9.2: two entries never have one text.
func TestTextsAreApart(t *testing.T) {
	entries := append(inForm(), deploy(fullOp(), fullOp()), record(1, 0, 0, "", 0), record(0, 0, 1, "", 0), record(0, 0, 0, "", 1), record(0, 0, 0, "\x00", 0))
	for i := range 9 {
		op := fullOp()
		for j, field := range []*int{&op.Kind, &op.In[0], &op.In[1], &op.Arg, &op.Rounds, &op.Test} {
			if i == j {
				*field++
			}
		}
		switch i {
		case 6:
			op.Num++
		case 7:
			op.Lim++
		case 8:
			op.In = op.In[:1]
		}
		entries = append(entries, deploy(op))
	}
	by := map[string]api.Entry{}
	for _, e := range entries {
		s, _ := Encode(e)
		if other, is := by[s]; is && !same(other, e) {
			t.Errorf("%v and %v have one text %q", e, other, s)
		}
		by[s] = e
	}
}

// P9.3: neither the graph nor the room behind its lists; that room isn't looked at.
func TestNothingIsChanged(t *testing.T) {
	inputs := []int{6, 7, 70, 71}
	some := []api.Op{fullOp(), {Kind: 1, In: inputs[:1:3]}, {Kind: 2, In: inputs[1:2]}, {Kind: 99, In: []int{1, 2, 3}}, {Kind: 98}}
	e := deploy(some[:3]...)
	e.Graph.Ops = some[:3]
	was := deepCopy(deploy(some...))
	for range 3 {
		isText(t, e, byHand(e))
	}
	if !same(deploy(some...), was) || !slices.Equal(inputs, []int{6, 7, 70, 71}) {
		t.Errorf("the graph, or the room behind its lists, was changed: %v, %v", some, inputs)
	}
	bad := deploy(some...)
	if _, err := Encode(bad); err != api.ErrForm || !same(bad, was) {
		t.Errorf("a graph that isn't in form: %d, %v", err, bad)
	}
}

// within asks whether a text lies in the memory of another one.
func within(s, other string) bool {
	if s == "" || other == "" {
		return false
	}
	at, from := uintptr(unsafe.Pointer(unsafe.StringData(s))), uintptr(unsafe.Pointer(unsafe.StringData(other)))
	return at >= from && at < from+uintptr(len(other))
}

// P9.3: texts of answers are memory of their own.
func TestTextsAreNew(t *testing.T) {
	e := record(1, 2, 3, strings.Repeat("k", 32), 4)
	one, _ := Encode(e)
	two, _ := Encode(e)
	if within(e.Rec.Key, one) || within(one, e.Rec.Key) || within(one, two) {
		t.Error("a text that was encoded shares memory")
	}
	x, _ := Decode(one)
	y, _ := Decode(one)
	if within(x.Rec.Key, one) || within(x.Rec.Key, y.Rec.Key) {
		t.Error("a key that was decoded shares memory")
	}
}

// fillInputs writes over an operator's inputs and the room behind them.
func fillInputs(op api.Op) {
	in := op.In[:cap(op.In)]
	for i := range in {
		in[i] = -77
	}
}

// fill writes over an entry's graph and the room behind all its lists.
func fill(e api.Entry) {
	all := e.Graph.Ops[:cap(e.Graph.Ops)]
	for i := range all {
		fillInputs(all[i])
		all[i] = api.Op{Kind: -77}
	}
}

// P9.3: what is done to an answer touches neither another answer nor another list of it, and what is handed in isn't kept.
func TestGraphsAreNew(t *testing.T) {
	want := deploy(fullOp(), api.Op{Kind: 1}, api.Op{Kind: 2, In: []int{5}}, fullOp(), api.Op{Kind: 3, In: []int{4}})
	s := byHand(want)
	x, _ := Decode(s)
	y, _ := Decode(s)
	for i := range x.Graph.Ops {
		one, _ := Decode(s)
		fillInputs(one.Graph.Ops[i])
		one.Graph.Ops[i] = want.Graph.Ops[i]
		if !same(one, want) {
			t.Errorf("other lists were changed through the inputs of %d: %v", i, one)
		}
	}
	fill(x)
	if z, _ := Decode(s); !same(y, want) || !same(z, want) {
		t.Error("an answer was changed through another one")
	}
	handed := deepCopy(want)
	one, _ := Encode(handed)
	fill(handed)
	if two, _ := Encode(want); one != s || two != s {
		t.Error("a text hangs on what was done to the graph behind it")
	}
}

// P9.1: an answer hangs on its argument alone, whatever was asked ahead.
func TestAnswersStay(t *testing.T) {
	asked := func() {
		for _, e := range inForm() {
			isText(t, e, byHand(e))
		}
		for what, e := range notInForm() {
			if _, err := Encode(e); err != api.ErrForm {
				t.Errorf("Encode of %s: %d", what, err)
			}
		}
	}
	asked()
	noText(t, "spoilt", "\x00\x04\x00")
	asked()
}
