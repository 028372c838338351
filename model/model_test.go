package model

import (
	"math"
	"math/rand"
	"slices"
	"strconv"
	"strings"
	"testing"

	"millrace/api"
	"millrace/fold"
	"millrace/graph"
)

const most = math.MaxUint32

// The signatures.
var (
	_ func(api.Graph) api.State                                                   = Empty
	_ func(api.Graph, api.State) bool                                             = Good
	_ func(api.Graph, api.State, []api.Record) ([]api.Pair, api.State, api.Errno) = Run
	_ func([]api.Pair) []api.Pair                                                 = Order
)

func graphOf(ops ...api.Op) api.Graph { return api.Graph{Ops: ops} }

func stateOf(folds ...[]api.Pair) api.State { return api.State{Folds: folds} }

func source(part int) api.Op { return api.Op{Kind: 1, Arg: part} }

func one(kind, in, arg int, num uint32) api.Op {
	return api.Op{Kind: kind, In: []int{in}, Arg: arg, Num: num}
}

func two(kind, a, b, arg int) api.Op { return api.Op{Kind: kind, In: []int{a, b}, Arg: arg} }

func foldOf(in, which int) api.Op { return one(4, in, which, 0) }

func union(a, b int) api.Op { return two(6, a, b, 0) }

func sink(in int) api.Op { return one(8, in, 0, 0) }

func loop(in, arg int, num uint32, rounds, test int, lim uint32) api.Op {
	return api.Op{Kind: 7, In: []int{in}, Arg: arg, Num: num, Rounds: rounds, Test: test, Lim: lim}
}

// through is a graph of a source, one operator and a sink.
func through(op api.Op) api.Graph { return graphOf(source(-1), op, sink(1)) }

// pairs reads "a 1, b 2"; ahead of the last blank stands the key.
func pairs(text string) []api.Pair {
	var l []api.Pair
	for _, part := range strings.Split(text, ", ") {
		at := strings.LastIndex(part, " ")
		if at < 0 {
			continue
		}
		n, err := strconv.ParseUint(part[at+1:], 10, 32)
		if err != nil {
			panic(err)
		}
		l = append(l, api.Pair{Key: part[:at], Val: uint32(n)})
	}
	return l
}

// inPart answers records of a partition, with those pairs.
func inPart(part int, text string) []api.Record {
	var l []api.Record
	for _, p := range pairs(text) {
		l = append(l, api.Record{Producer: len(l) % 3, Seq: len(l), Part: part, Key: p.Key, Val: p.Val})
	}
	return l
}

func records(text string) []api.Record { return inPart(0, text) }

func equalStates(a, b api.State) bool {
	return slices.EqualFunc(a.Folds, b.Folds, func(x, y []api.Pair) bool { return slices.Equal(x, y) })
}

func cloneState(s api.State) api.State {
	var c api.State
	for _, l := range s.Folds {
		c.Folds = append(c.Folds, slices.Clone(l))
	}
	return c
}

func cloneGraph(g api.Graph) api.Graph {
	ops := slices.Clone(g.Ops)
	for i := range ops {
		ops[i].In = slices.Clone(ops[i].In)
	}
	return api.Graph{Ops: ops}
}

// wantRun runs an epoch, and answers the state behind it.
func wantRun(t *testing.T, g api.Graph, s api.State, l []api.Record, want string) api.State {
	t.Helper()
	out, behind, e := Run(g, s, l)
	if e != api.OK || !slices.Equal(out, pairs(want)) {
		t.Errorf("Run(%v, %v, %v) = %v, %d; want %s", g, s, l, out, e, want)
	}
	if len(behind.Folds) != len(g.Ops) {
		t.Errorf("Run(%v, %v, %v): %d lists of %d", g, s, l, len(behind.Folds), len(g.Ops))
	}
	return behind
}

func wantState(t *testing.T, got api.State, want ...string) {
	t.Helper()
	var state api.State
	for _, text := range want {
		state.Folds = append(state.Folds, pairs(text))
	}
	if !equalStates(got, state) {
		t.Errorf("the state is %v, want %v", got, state)
	}
}

// wantRefused asks for an error, and that all else is nothing.
func wantRefused(t *testing.T, g api.Graph, s api.State, l []api.Record, want api.Errno) {
	t.Helper()
	out, behind, e := Run(g, s, l)
	if e != want || len(out) != 0 || len(behind.Folds) != 0 {
		t.Errorf("Run of %d operators, %d lists, %d records = %d pairs, %d lists, %d; want %d", len(g.Ops), len(s.Folds), len(l), len(out), len(behind.Folds), e, want)
	}
}

// bag is what belongs to an operator by the chapter's words: pairs without an order.
type bag []api.Pair

func (b bag) keys() []string {
	var keys []string
	for _, p := range b {
		if !slices.Contains(keys, p.Key) {
			keys = append(keys, p.Key)
		}
	}
	return keys
}

func (b bag) values(key string) []uint32 {
	var values []uint32
	for _, p := range b {
		if p.Key == key {
			values = append(values, p.Val)
		}
	}
	return values
}

func (b bag) all(which int, key string) uint32 {
	v, _ := fold.All(which, b.values(key))
	return v
}

func loopByRule(op api.Op, v uint32) uint32 {
	for round := 1; ; round++ {
		v = fold.Map(op.Arg, op.Num, v)
		if round == op.Rounds || fold.Test(op.Test, op.Lim, v) {
			return v
		}
	}
}

// bagByRule answers what belongs to the operator, given what belongs to its inputs; what its fold keeps is changed.
func bagByRule(op api.Op, in []bag, kept map[string]uint32, l []api.Record) bag {
	var b bag
	add := func(key string, v uint32) { b = append(b, api.Pair{Key: key, Val: v}) }
	switch op.Kind {
	case 1:
		for _, r := range l {
			if r.Part == op.Arg || op.Arg < 0 {
				add(r.Key, r.Val)
			}
		}
	case 2:
		for _, p := range in[0] {
			add(p.Key, fold.Map(op.Arg, op.Num, p.Val))
		}
	case 3:
		for _, p := range in[0] {
			if fold.Test(op.Arg, op.Num, p.Val) {
				add(p.Key, p.Val)
			}
		}
	case 4:
		for _, key := range in[0].keys() {
			v := in[0].all(op.Arg, key)
			if old, is := kept[key]; is {
				v = fold.Join(op.Arg, old, v)
			}
			kept[key] = v
			add(key, v)
		}
	case 5:
		for _, key := range in[0].keys() {
			if slices.Contains(in[1].keys(), key) {
				add(key, fold.Join(op.Arg, in[0].all(op.Arg, key), in[1].all(op.Arg, key)))
			}
		}
	case 6:
		b = append(append(b, in[0]...), in[1]...)
	case 7:
		for _, p := range in[0] {
			add(p.Key, loopByRule(op, p.Val))
		}
	case 8:
		b = in[0]
	}
	return b
}

// ahead: does a stand ahead of b, or is it the same.
func ahead(a, b api.Pair) bool { return a.Key < b.Key || a.Key == b.Key && a.Val <= b.Val }

// inOrder puts each pair at its place.
func inOrder(l []api.Pair) []api.Pair {
	var sorted []api.Pair
	for _, p := range l {
		at := 0
		for at < len(sorted) && ahead(sorted[at], p) {
			at++
		}
		sorted = slices.Insert(sorted, at, p)
	}
	return sorted
}

// runByRule answers what Run has to, of a right graph and a state for it.
func runByRule(g api.Graph, s api.State, l []api.Record) ([]api.Pair, api.State, api.Errno) {
	if len(l) > 512 {
		return nil, api.State{}, 2
	}
	var bags []bag
	var behind api.State
	for at, op := range g.Ops {
		kept := map[string]uint32{}
		if at < len(s.Folds) {
			for _, p := range s.Folds[at] {
				kept[p.Key] = p.Val
			}
		}
		var in []bag
		for _, i := range op.In {
			in = append(in, bags[i])
		}
		bags = append(bags, bagByRule(op, in, kept, l))
		if len(bags[at]) > 4096 {
			return nil, api.State{}, 2
		}
		var list []api.Pair
		for key, v := range kept {
			list = append(list, api.Pair{Key: key, Val: v})
		}
		behind.Folds = append(behind.Folds, inOrder(list))
	}
	return inOrder(bags[len(bags)-1]), behind, 0
}

// wantByRule holds a run against the rule, and answers the state behind it.
func wantByRule(t *testing.T, g api.Graph, s api.State, l []api.Record) api.State {
	t.Helper()
	out, behind, e := Run(g, s, l)
	wantOut, wantBehind, want := runByRule(g, s, l)
	if e != want || !slices.Equal(out, wantOut) || !equalStates(behind, wantBehind) {
		t.Fatalf("Run(%v, %v, %v) = %v, %v, %d; want %v, %v, %d", g, s, l, out, behind, e, wantOut, wantBehind, want)
	}
	return behind
}

// anyGraph is a right graph of so many operators, by chance, of which folds and joins are often a way's beginning.
func anyGraph(r *rand.Rand, many int) api.Graph {
	number := func() uint32 { return r.Uint32() >> r.Intn(32) }
	args := []int{0, 0, fold.Maps, fold.Tests, fold.Folds, fold.Folds, 1, fold.Maps, 1}
	inputs := []int{0, 0, 1, 1, 1, 2, 2, 1, 1}
	var g api.Graph
	for at := range many {
		op := api.Op{Kind: 1 + r.Intn(7)}
		switch {
		case at == 0:
			op.Kind = 1
		case at == many-1:
			op.Kind = 8
		}
		if op.Kind == 1 {
			op.Arg = r.Intn(4) - 1
		} else {
			op.Arg = r.Intn(args[op.Kind])
		}
		for range inputs[op.Kind] {
			op.In = append(op.In, at-1-r.Intn(min(at, 5)))
		}
		if op.Kind == 2 || op.Kind == 3 || op.Kind == 7 {
			op.Num = number()
		}
		if op.Kind == 7 {
			op.Rounds, op.Test, op.Lim = 1+r.Intn(16), r.Intn(4), number()
		}
		g.Ops = append(g.Ops, op)
	}
	return g
}

// someKeys are keys whose order goes wrong, if it isn't byte by byte.
func someKeys() []string {
	return []string{"", "\x00", "a", "aa", "a\x00", "a\xff", "b", "B", "10", "9", "\x7f", "\x80", "\xff", "é", "日", "\xe9", strings.Repeat("k", 32)}
}

func anyRecords(r *rand.Rand, many int) []api.Record {
	keys := someKeys()
	keys = keys[:1+r.Intn(len(keys))]
	var l []api.Record
	for i := range many {
		l = append(l, api.Record{Producer: r.Intn(64), Seq: i, Part: r.Intn(4), Key: keys[r.Intn(len(keys))], Val: r.Uint32() >> r.Intn(32)})
	}
	return l
}

// anyState is a state for the graph, by chance.
func anyState(r *rand.Rand, g api.Graph) api.State {
	if r.Intn(4) == 0 {
		return api.State{}
	}
	var s api.State
	for _, op := range g.Ops {
		var kept []api.Pair
		for _, key := range someKeys() {
			if op.Kind == 4 && r.Intn(3) == 0 {
				kept = append(kept, api.Pair{Key: key, Val: r.Uint32()})
			}
		}
		s.Folds = append(s.Folds, inOrder(kept))
	}
	return s
}

// P12.2: the chapter's examples.
func TestExamples(t *testing.T) {
	g := through(foldOf(0, 0))
	s := wantRun(t, g, Empty(g), records("a 1, b 2, a 3"), "a 4, b 2")
	s = wantRun(t, g, s, records("a 1"), "a 5")
	wantState(t, s, "", "a 5, b 2", "")

	g = graphOf(source(0), source(1), two(5, 0, 1, 2), sink(2))
	s = wantRun(t, g, Empty(g), slices.Concat(records("a 1, a 7"), inPart(1, "a 5")), "a 7")
	wantState(t, s, "", "", "", "")

	g = through(loop(0, 1, 2, 3, 1, 10))
	wantRun(t, g, Empty(g), records("a 1"), "a 8")
	wantRun(t, g, Empty(g), records("a 6"), "a 12")
}

// P12.1: a list for each operator, none of which has a pair; whether the graph is right or not.
func TestEmpty(t *testing.T) {
	r := rand.New(rand.NewSource(1))
	graphs := []api.Graph{{}, graphOf(api.Op{}), graphOf(make([]api.Op, 16)...), graphOf(make([]api.Op, 17)...), graphOf(make([]api.Op, 1000)...), graphOf(api.Op{Kind: -4, In: []int{9}})}
	for many := 2; many <= 16; many++ {
		graphs = append(graphs, anyGraph(r, many))
	}
	for _, g := range graphs {
		s := Empty(g)
		if len(s.Folds) != len(g.Ops) {
			t.Errorf("Empty of %d operators has %d lists", len(g.Ops), len(s.Folds))
		}
		for at, l := range s.Folds {
			if len(l) != 0 {
				t.Errorf("Empty(%v) has %v at %d", g, l, at)
			}
		}
		if !Good(g, s) || !Good(g, api.State{}) || !Good(g, stateOf([][]api.Pair{}...)) {
			t.Errorf("an empty state isn't one for %v", g)
		}
	}
}

func wantGood(t *testing.T, g api.Graph, s api.State, want bool) {
	t.Helper()
	if Good(g, s) != want {
		t.Errorf("Good(%v, %v) = %v", g, s, !want)
	}
}

// P12.1: how many lists a state has.
func TestHowManyLists(t *testing.T) {
	for many := range 20 {
		g := graphOf(slices.Repeat([]api.Op{foldOf(0, 0)}, many)...)
		for lists := range 25 {
			wantGood(t, g, stateOf(make([][]api.Pair, lists)...), lists == 0 || lists == many)
		}
	}
}

// P12.1: just an OFold's list has pairs, whatever else the operator says.
func TestWhoKeeps(t *testing.T) {
	for kind := -2; kind <= 12; kind++ {
		for at := range 3 {
			g := graphOf(source(0), source(0), source(0))
			g.Ops[at] = api.Op{Kind: kind, In: []int{77}, Arg: -9, Num: 3, Rounds: -1}
			s := stateOf(nil, []api.Pair{}, nil)
			wantGood(t, g, s, true)
			s.Folds[at] = pairs("a 1, b 2")
			wantGood(t, g, s, kind == 4)
			s.Folds[at] = pairs(" 0")
			wantGood(t, g, s, kind == 4)
			s.Folds[(at+1)%3] = pairs("a 1")
			wantGood(t, g, s, false)
		}
	}
	wantGood(t, graphOf(api.Op{Kind: 4 + 1<<32}), stateOf(pairs("a 1")), false)
	wantGood(t, graphOf(api.Op{Kind: 4 - 256}), stateOf(pairs("a 1")), false)
}

// P12.1: keys rise, each is there once.
func TestKeysRise(t *testing.T) {
	g := graphOf(foldOf(0, 0), source(0), foldOf(0, 0))
	for _, a := range someKeys() {
		for _, b := range someKeys() {
			for i, v := range []uint32{0, 1, most} {
				l := []api.Pair{{Key: a, Val: v}, {Key: b, Val: 1}}
				wantGood(t, g, stateOf(l, nil, nil), a < b)
				wantGood(t, g, stateOf(nil, nil, l), a < b)
				wantGood(t, g, stateOf(pairs("m 3"), nil, l[i%2:i%2+1]), true)
				wantGood(t, g, stateOf(nil, l, nil), false)
			}
		}
	}
	l := pairs("a 5, b 4, c 3, d 2, e 1")
	wantGood(t, g, stateOf(l, nil, l), true)
	for i := range l {
		for j := range l {
			other := slices.Clone(l)
			other[i], other[j] = other[j], other[i]
			wantGood(t, g, stateOf(l, nil, other), i == j)
			other = slices.Clone(l)
			other[i].Key = other[j].Key
			wantGood(t, g, stateOf(other, nil, l), i == j)
		}
	}
}

// P12.1: how long a kept key is, at each place.
func TestLongKeys(t *testing.T) {
	g := graphOf(foldOf(0, 0))
	for long := range 70 {
		for at := range 3 {
			l := pairs("a 1, b 2, c 3")
			l[at].Key += strings.Repeat("x", long)
			wantGood(t, g, stateOf(l), 1+long <= 32)
		}
	}
	wantGood(t, g, stateOf([]api.Pair{{Key: strings.Repeat("日", 11)}}), false)
	wantGood(t, g, stateOf([]api.Pair{{Key: strings.Repeat("日", 10) + "ab"}}), true)
	wantGood(t, g, stateOf([]api.Pair{{Key: strings.Repeat("x", 1<<20)}}), false)
}

// P12.1: each order of a few pairs comes to one; nothing is lost and nothing doubled.
func TestOrderByHand(t *testing.T) {
	for _, c := range [][2]string{
		{"", ""}, {"a 1", "a 1"}, {"b 1, a 2", "a 2, b 1"}, {"a 2, a 1", "a 1, a 2"}, {"a 1, a 1", "a 1, a 1"},
		{"a 10, a 9, a 4294967295, a 0", "a 0, a 9, a 10, a 4294967295"},
		{"aa 1, a 2, b 0, B 3,  4", " 4, B 3, a 2, aa 1, b 0"},
		{"\xff 1, é 2, z 3, \x80 4", "z 3, \x80 4, é 2, \xff 1"},
		{"b 1, a 5, b 1, a 5, b 0, a 5", "a 5, a 5, a 5, b 0, b 1, b 1"},
		{"a 2147483648, a 2147483647", "a 2147483647, a 2147483648"},
	} {
		if got := Order(pairs(c[0])); !slices.Equal(got, pairs(c[1])) {
			t.Errorf("Order(%s) = %v, want %s", c[0], got, c[1])
		}
	}
	if len(Order(nil)) != 0 || len(Order([]api.Pair{})) != 0 {
		t.Error("the order of none has some")
	}
}

// P12.1: long lists, by chance, against a list in which each pair is put at its place.
func TestOrderByChance(t *testing.T) {
	r := rand.New(rand.NewSource(2))
	for range 300 {
		var l []api.Pair
		for _, rec := range anyRecords(r, r.Intn(80)) {
			l = append(l, api.Pair{Key: rec.Key, Val: rec.Val >> r.Intn(32)})
		}
		before := slices.Clone(l)
		want := inOrder(l)
		if got := Order(l); !slices.Equal(got, want) || !slices.Equal(l, before) {
			t.Fatalf("Order(%v) = %v", before, got)
		}
	}
	var long []api.Pair
	for i := range 100000 {
		long = append(long, api.Pair{Key: strconv.Itoa(i * 7 % 1000), Val: uint32(i * 31 % 977)})
	}
	got := Order(long)
	for i := range got[1:] {
		if !ahead(got[i], got[i+1]) {
			t.Fatalf("%v ahead of %v", got[i], got[i+1])
		}
	}
	if len(got) != len(long) {
		t.Errorf("%d of %d", len(got), len(long))
	}
}

// P12.2: which records a source lets pass.
func TestSource(t *testing.T) {
	var l []api.Record
	all := ""
	for part := range 8 {
		l = append(l, api.Record{Producer: 7 - part, Seq: 10 * part, Part: part, Key: "k", Val: uint32(100 + part)})
		all += ", k " + strconv.Itoa(100+part)
	}
	l = append(l, l[3])
	for part := range 8 {
		g := graphOf(source(part), sink(0))
		want := "k " + strconv.Itoa(100+part)
		if part == 3 {
			want += ", " + want
		}
		wantRun(t, g, Empty(g), l, want)
		wantRun(t, g, Empty(g), nil, "")
		wantRun(t, g, Empty(g), inPart((part+1)%8, "k 1, k 2"), "")
		for _, far := range []int{-1, -2, 8, 9, part + 256, part + 1<<32, part - 1<<32, math.MinInt, math.MaxInt} {
			wantRun(t, g, Empty(g), inPart(far, "k 1"), "")
		}
	}
	g := graphOf(source(-1), sink(0))
	wantRun(t, g, Empty(g), l[:8], all[2:])
	for _, far := range []int{-1, -2, 8, math.MinInt, math.MaxInt} {
		wantRun(t, g, Empty(g), inPart(far, "k 1"), "k 1")
	}
}

// P12.2: a record's producer and number don't count, nor whether it is there twice.
func TestProducersDontCount(t *testing.T) {
	g := graphOf(source(-1), sink(0))
	l := []api.Record{{Producer: 5, Seq: 9, Key: "a", Val: 1}, {Producer: 5, Seq: 9, Key: "a", Val: 1}, {Producer: -1, Seq: -1, Key: "a", Val: 2}}
	wantRun(t, g, Empty(g), l, "a 1, a 1, a 2")
}

// P12.2: maps and tests, by number.
func TestMapsAndFilters(t *testing.T) {
	l := records("a 12, b 3, a 3, c 4294967295, d 0, d 40")
	for which, want := range []string{
		"a 8, a 17, b 8, c 4, d 5, d 45",
		"a 15, a 60, b 15, c 4294967291, d 0, d 200",
		"a 6, a 9, b 6, c 4294967290, d 5, d 45",
		"a 0, a 0, b 0, c 134217727, d 0, d 1",
		"a 5, a 5, b 5, c 5, d 5, d 5",
		"a 14, a 149, b 14, c 6, d 5, d 1605",
	} {
		g := through(one(2, 0, which, 5))
		wantRun(t, g, Empty(g), l, want)
	}
	for which, want := range []string{
		"a 3, b 3, d 0",
		"a 12, c 4294967295, d 40",
		"a 12, c 4294967295",
		"a 12, d 0",
	} {
		num := []uint32{4, 4, 4, 12}[which]
		g := through(one(3, 0, which, num))
		wantRun(t, g, Empty(g), l, want)
	}
	g := through(one(3, 0, 3, 0))
	wantRun(t, g, Empty(g), l, "")
}

// P12.2: a loop ends behind the first round behind which the value passes, or behind all; but never ahead of one.
func TestLoop(t *testing.T) {
	for _, c := range []struct {
		op       api.Op
		from, to string
	}{
		{loop(0, 0, 1, 1, 1, 0), "a 5", "a 6"},
		{loop(0, 0, 1, 16, 1, 0), "a 5", "a 6"},
		{loop(0, 0, 1, 1, 1, 100), "a 5", "a 6"},
		{loop(0, 0, 1, 2, 1, 100), "a 5", "a 7"},
		{loop(0, 0, 1, 16, 1, 100), "a 5", "a 21"},
		{loop(0, 0, 1, 16, 1, 21), "a 5", "a 21"},
		{loop(0, 0, 1, 16, 1, 20), "a 5", "a 20"},
		{loop(0, 0, 1, 16, 1, 20), "a 19, a 20, a 21, b 0, c 18, c 4", "a 20, a 21, a 22, b 16, c 20, c 20"},
		{loop(0, 0, 1, 16, 0, 100), "a 5", "a 6"},
		{loop(0, 0, most, 16, 0, 3), "a 5, a 3, a 0, a 1", "a 0, a 2, a 2, a 4294967280"},
		{loop(0, 3, 1, 16, 2, 1), "a 12, a 16, a 7, a 1, a 0", "a 0, a 0, a 1, a 3, a 3"},
		{loop(0, 0, 1, 16, 3, 10), "a 10, a 11, a 3, a 4, a 0", "a 10, a 10, a 10, a 20, a 20"},
		{loop(0, 0, 1, 5, 3, 0), "a 10", "a 15"},
		{loop(0, 4, 9, 7, 1, 9), "a 1, b 10", "a 9, b 9"},
		{loop(0, 5, 0, 3, 1, most), "a 2, b 3", "a 256, b 6561"},
		{loop(0, 1, 0, 3, 0, 1), "a 2", "a 0"},
	} {
		g := through(c.op)
		wantRun(t, g, Empty(g), records(c.from), c.to)
	}
}

// P12.2: what a fold keeps, by number, over epochs.
func TestFolds(t *testing.T) {
	for which, want := range [][3]string{
		{"a 9, b 12", "a 15", "b 11, c 8"},
		{"a 2, b 1", "a 3", "b 2, c 2"},
		{"a 6, b 12", "a 6", "b 4294967295, c 4"},
		{"a 3, b 12", "a 3", "b 12, c 4"},
		{"a 5, b 12", "a 3", "b 4294967283, c 0"},
		{"a 2, b 12", "a 2", "b 12, c 4"},
		{"a 7, b 12", "a 7", "b 4294967295, c 4"},
	} {
		g := through(foldOf(0, which))
		s := wantRun(t, g, Empty(g), records("a 3, b 12, a 6"), want[0])
		s = wantRun(t, g, s, records("a 6"), want[1])
		a := want[1]
		s = wantRun(t, g, s, records("c 4, b 4294967295, c 4"), want[2])
		wantState(t, s, "", a+", "+want[2], "")
		if !Good(g, s) {
			t.Errorf("%v isn't a state", s)
		}
		wantState(t, wantRun(t, g, s, nil, ""), "", a+", "+want[2], "")
	}
}

// P12.2: each fold keeps for itself; what it keeps counts for it alone, and stays where its input lacks the key.
func TestFoldsKeepForThemselves(t *testing.T) {
	g := graphOf(source(-1), foldOf(0, 0), foldOf(0, 1), foldOf(1, 1), sink(1))
	s := wantRun(t, g, api.State{}, records("a 5, a 6, b 1"), "a 11, b 1")
	wantState(t, s, "", "a 11, b 1", "a 2, b 1", "a 1, b 1", "")
	s = wantRun(t, g, s, records("a 1"), "a 12")
	wantState(t, s, "", "a 12, b 1", "a 3, b 1", "a 2, b 1", "")
	s = stateOf(nil, pairs("a 100"), nil, pairs("a 7, z 7"), nil)
	s = wantRun(t, g, s, records("a 1, b 2"), "a 101, b 2")
	wantState(t, s, "", "a 101, b 2", "a 1, b 1", "a 8, b 1, z 7", "")
}

// P12.2: a nought that is kept is kept, and joined with what comes.
func TestNoughtIsKept(t *testing.T) {
	for which, want := range []string{"a 3", "a 1", "a 3", "a 0", "a 3", "a 0", "a 3"} {
		g := through(foldOf(0, which))
		s := stateOf(nil, pairs("a 0"), nil)
		wantState(t, wantRun(t, g, s, records("a 3"), want), "", want, "")
		fresh := "b " + strconv.Itoa(int(fold.Start(which, 0)))
		wantState(t, wantRun(t, g, s, records("b 0"), fresh), "", "a 0, "+fresh, "")
	}
}

// P12.2: keys that both inputs have, in this epoch alone; the values of each input come to one ahead of the other's.
func TestJoins(t *testing.T) {
	l := slices.Concat(inPart(0, "a 3, a 6, b 9, c 1"), inPart(1, "a 10, c 4, d 2, c 12, c 12"), inPart(2, "a 1000, b 1000"))
	for which, want := range []string{
		"a 19, c 29", "a 3, c 4", "a 10, c 12", "a 3, c 1", "a 15, c 5", "a 2, c 0", "a 15, c 13",
	} {
		for _, op := range []api.Op{two(5, 0, 1, which), two(5, 1, 0, which)} {
			g := graphOf(source(0), source(1), op, sink(2))
			s := wantRun(t, g, api.State{}, l, want)
			wantState(t, s, "", "", "", "")
			wantRun(t, g, s, inPart(0, "a 1"), "")
			wantRun(t, g, s, inPart(1, "a 1"), "")
			wantRun(t, g, s, nil, "")
		}
	}
	for which, want := range []string{"a 18", "a 4", "a 6", "a 3", "a 0", "a 2", "a 7"} {
		g := through(two(5, 0, 0, which))
		wantRun(t, g, api.State{}, records("a 3, a 6"), want)
	}
}

// P12.2: a union has each pair of both, once for each.
func TestUnion(t *testing.T) {
	g := graphOf(source(0), source(1), union(1, 0), sink(2))
	wantRun(t, g, api.State{}, slices.Concat(inPart(0, "a 1, b 2"), inPart(1, "a 1, c 0"), inPart(2, "a 9")), "a 1, a 1, b 2, c 0")
	g = graphOf(source(0), union(0, 0), foldOf(1, 0), foldOf(1, 1), union(2, 3), union(4, 0), sink(5))
	s := wantRun(t, g, api.State{}, records("a 1, b 2, a 4"), "a 1, a 4, a 4, a 10, b 2, b 2, b 4")
	wantState(t, s, "", "", "a 10, b 4", "a 4, b 2", "", "", "")
}

// P12.2: the sink may have any of the operators; the others keep what they keep.
func TestSinkOfAny(t *testing.T) {
	ops := []api.Op{source(-1), one(2, 0, 1, 3), foldOf(1, 0), one(3, 0, 0, 3), two(5, 2, 3, 3)}
	for in, want := range []string{"a 1, a 3, b 2", "a 3, a 9, b 6", "a 12, b 6", "a 1, b 2", "a 1, b 2"} {
		g := graphOf(append(slices.Clone(ops), sink(in))...)
		wantState(t, wantRun(t, g, api.State{}, records("a 3, b 2, a 1"), want), "", "", "a 12, b 6", "", "", "")
	}
}

// P12.2: a state without lists is the empty one, nil or not.
func TestStateWithoutLists(t *testing.T) {
	g := graphOf(source(-1), foldOf(0, 0), sink(1))
	for _, s := range []api.State{{}, stateOf([][]api.Pair{}...), Empty(g), stateOf(nil, []api.Pair{}, nil), stateOf(pairs("q 1"))} {
		if len(s.Folds) == 1 {
			s.Folds = s.Folds[:0]
		}
		wantState(t, wantRun(t, g, s, records("a 1"), "a 1"), "", "a 1", "")
		wantState(t, wantRun(t, g, s, nil, ""), "", "", "")
	}
}

func wrongGraphs() []api.Graph {
	return []api.Graph{
		{}, graphOf([]api.Op{}...), graphOf(make([]api.Op, 17)...), graphOf(source(-1)), graphOf(sink(0)), graphOf(source(8), sink(0)),
		graphOf(source(-1), sink(1)), graphOf(source(-1), foldOf(0, 7), sink(1)), graphOf(source(-1), foldOf(-1, 0), sink(1)),
		graphOf(source(-1), union(0, 1), sink(1)), graphOf(source(-1), loop(0, 0, 0, 17, 0, 0), sink(1)), graphOf(source(-1), one(2, 2, 0, 0), sink(1)),
		graphOf(source(-1), api.Op{Kind: 9, In: []int{0}}, sink(1)), graphOf(source(-1), api.Op{Kind: 5, In: []int{0}}, sink(1)), graphOf(make([]api.Op, 100000)...),
	}
}

// P12.2: a graph that isn't right goes ahead of all.
func TestErrGraph(t *testing.T) {
	for _, g := range wrongGraphs() {
		for _, s := range []api.State{{}, Empty(g), stateOf(make([][]api.Pair, 5)...), stateOf(pairs("b 1, a 2"), nil, nil)} {
			for _, many := range []int{0, 1, 512, 513} {
				wantRefused(t, g, s, make([]api.Record, many), api.ErrGraph)
			}
		}
	}
}

// P12.2: a state that isn't one for the graph goes ahead of too many records.
func TestErrForm(t *testing.T) {
	g := through(foldOf(0, 0))
	for _, s := range []api.State{
		stateOf(nil), stateOf(nil, nil), stateOf(nil, nil, nil, nil), stateOf(pairs("a 1"), nil, nil), stateOf(nil, nil, pairs("a 1")),
		stateOf(nil, pairs("b 1, a 1"), nil), stateOf(nil, pairs("a 1, a 1"), nil), stateOf(nil, pairs("a 1, a 2"), nil),
		stateOf(nil, pairs(strings.Repeat("x", 33)+" 1"), nil), stateOf(nil, pairs("a 1"), pairs("a 1")),
	} {
		for _, many := range []int{0, 1, 512, 513, 2000} {
			wantRefused(t, g, s, make([]api.Record, many), api.ErrForm)
		}
	}
	doubling := graphOf(source(-1), union(0, 0), union(1, 1), union(2, 2), union(3, 3), sink(4))
	wantRefused(t, doubling, stateOf(nil), make([]api.Record, 512), api.ErrForm)
}

// P12.2: how many records, whether a source lets them pass or not.
func TestTooManyRecords(t *testing.T) {
	for _, g := range []api.Graph{graphOf(source(-1), sink(0)), graphOf(source(7), sink(0)), through(foldOf(0, 1))} {
		for _, many := range []int{0, 1, 511, 512} {
			if out, _, e := Run(g, api.State{}, make([]api.Record, many)); e != api.OK || g.Ops[0].Arg == -1 && len(g.Ops) == 2 && len(out) != many {
				t.Errorf("%d records: %d pairs, %d", many, len(out), e)
			}
		}
		for _, many := range []int{513, 514, 1024, 1 << 16, 1<<16 + 1} {
			wantRefused(t, g, api.State{}, make([]api.Record, many), api.ErrLong)
		}
	}
}

// P12.2: how many pairs an operator has: 4096 and one more, and wherever it stands.
func TestTooManyPairs(t *testing.T) {
	ops := []api.Op{source(0), source(1), union(0, 0), union(2, 2), union(3, 3)}
	full := inPart(0, strings.Repeat("k 1, ", 512))
	fits := graphOf(append(slices.Clone(ops), union(1, 4), sink(5))...)
	out, _, e := Run(fits, api.State{}, full)
	if e != api.OK || len(out) != 4096 {
		t.Errorf("%d pairs, %d", len(out), e)
	}
	less := slices.Concat(full[:511], inPart(1, "z 1"))
	if out, _, e = Run(fits, api.State{}, less); e != api.OK || len(out) != 4089 {
		t.Errorf("%d pairs, %d", len(out), e)
	}
	for _, more := range [][]api.Op{
		{union(4, 4), sink(5)}, {union(4, 0), sink(5)}, {union(4, 4), sink(0)}, {union(4, 4), sink(1)}, {union(4, 4), one(3, 5, 0, 0), sink(6)},
		{union(4, 4), foldOf(5, 0), sink(6)}, {union(4, 4), two(5, 5, 0, 0), sink(6)}, {foldOf(0, 0), union(4, 4), sink(5)},
		{foldOf(0, 0), union(4, 5), sink(5)}, {one(2, 4, 0, 1), union(5, 4), sink(0)},
	} {
		g := graphOf(append(slices.Clone(ops), more...)...)
		if _, e := graph.Check(g); e != api.OK {
			t.Fatalf("%v isn't right", g)
		}
		wantRefused(t, g, api.State{}, full, api.ErrLong)
		wantByRule(t, g, api.State{}, full[:200])
	}
}

// P12.2: 4097 pairs are too many, 4096 of the same operator aren't: it is the number that counts, not the doubling.
func TestOnePairTooMany(t *testing.T) {
	g := graphOf(source(0), source(1), union(0, 0), union(2, 2), union(3, 3), union(4, 3), foldOf(5, 1), foldOf(1, 1), union(5, 7), sink(8))
	half := inPart(0, strings.Repeat("k 1, ", 341)) // 12 of each at 5: 4092
	for keys := range 9 {
		l := slices.Clone(half)
		for i := range keys {
			l = append(l, inPart(1, strconv.Itoa(i)+" 1")...)
		}
		if keys > 4 {
			wantRefused(t, g, api.State{}, l, api.ErrLong)
			continue
		}
		out, s, e := Run(g, api.State{}, l)
		if e != api.OK || len(out) != 4092+keys || s.Folds[6][0].Val != 4092 {
			t.Errorf("%d keys: %d pairs, %d", keys, len(out), e)
		}
	}
}

// P12.2: unions that would double for ever end soon.
func TestDoublingEnds(t *testing.T) {
	g := graphOf(source(-1))
	for at := 1; at < 15; at++ {
		g.Ops = append(g.Ops, union(at-1, at-1))
	}
	g.Ops = append(g.Ops, sink(14))
	wantRefused(t, g, api.State{}, make([]api.Record, 512), api.ErrLong)
	wantRefused(t, g, api.State{}, make([]api.Record, 1), api.ErrLong)
	wantRun(t, g, api.State{}, nil, "")
	g.Ops[15].In[0] = 0
	wantRefused(t, g, api.State{}, make([]api.Record, 1), api.ErrLong)
}

// P12.2: a fold may keep more than an epoch may have pairs.
func TestManyKept(t *testing.T) {
	g := through(foldOf(0, 0))
	s := Empty(g)
	for epoch := range 12 {
		var l []api.Record
		for i := range 512 {
			l = append(l, api.Record{Key: strconv.Itoa(epoch*512 + i), Val: 1})
		}
		out, behind, e := Run(g, s, l)
		if e != api.OK || len(out) != 512 || len(behind.Folds[1]) != 512*(epoch+1) || !Good(g, behind) {
			t.Fatalf("epoch %d: %d pairs, %d kept, %d", epoch, len(out), len(behind.Folds[1]), e)
		}
		s = behind
	}
	wantRun(t, g, s, records("0 1, 6143 1, 7000 1"), "0 2, 6143 2, 7000 1")
}

// P12.2: no error is named for a record whose key is too long: it goes through as any other.
func TestRecordWithLongKey(t *testing.T) {
	for _, long := range []int{31, 32, 33, 5000} {
		key := strings.Repeat("x", long)
		g := through(foldOf(0, 0))
		s := wantRun(t, g, api.State{}, records(key+" 1, "+key+" 2, a 1"), "a 1, "+key+" 3")
		wantState(t, s, "", "a 1, "+key+" 3", "")
		wantGood(t, g, s, long <= 32)
	}
}

// P12.2: graphs, states and rows of epochs by chance, against the chapter's rules.
func TestByChance(t *testing.T) {
	r := rand.New(rand.NewSource(3))
	told := 0
	for range 4000 {
		g := anyGraph(r, 2+r.Intn(15))
		s := anyState(r, g)
		if !Good(g, s) {
			t.Fatalf("%v isn't a state for %v", s, g)
		}
		for range 1 + r.Intn(3) {
			s = wantByRule(t, g, s, anyRecords(r, r.Intn(24)))
			if !Good(g, s) {
				t.Fatalf("%v isn't a state for %v", s, g)
			}
			told += len(s.Folds)
		}
	}
	if told < 40000 {
		t.Errorf("only %d lists were told", told)
	}
}

// P12.2: epochs near the limits, by chance.
func TestLongEpochsByChance(t *testing.T) {
	r := rand.New(rand.NewSource(4))
	refused := 0
	for range 60 {
		g := anyGraph(r, 3+r.Intn(14))
		l := anyRecords(r, 505+r.Intn(10))
		if _, _, e := Run(g, api.State{}, l); e != api.OK {
			refused++
		}
		wantByRule(t, g, api.State{}, l)
	}
	if refused < 10 || refused > 50 {
		t.Errorf("%d of 60 refused: too few of the one or the other", refused)
	}
}

// P12.1: states that were spoilt in one thing, by chance.
func TestSpoiltStates(t *testing.T) {
	r := rand.New(rand.NewSource(5))
	spoilt := 0
	for range 10000 {
		g := anyGraph(r, 2+r.Intn(15))
		s := anyState(r, g)
		if len(s.Folds) == 0 {
			continue
		}
		at := r.Intn(len(s.Folds))
		l := s.Folds[at]
		if len(l) < 2 {
			continue
		}
		i := r.Intn(len(l) - 1)
		switch r.Intn(6) {
		case 0:
			l[i], l[i+1] = l[i+1], l[i]
		case 1:
			l[i+1].Key = l[i].Key
		case 2:
			s.Folds = append(s.Folds, nil)
		case 3:
			s.Folds = s.Folds[:len(s.Folds)-1]
		case 4:
			l[len(l)-1].Key = "\xff" + strings.Repeat("z", 32+r.Intn(3))
		case 5:
			for op := range g.Ops {
				if g.Ops[op].Kind != 4 {
					s.Folds[op] = l[:1]
				}
			}
		}
		spoilt++
		wantGood(t, g, s, false)
		wantRefused(t, g, s, anyRecords(r, r.Intn(4)), api.ErrForm)
	}
	if spoilt < 500 {
		t.Errorf("only %d were spoilt", spoilt)
	}
}

// P12.3: the records' order never counts: all orders of a few.
func TestAllOrders(t *testing.T) {
	r := rand.New(rand.NewSource(6))
	for range 40 {
		g := anyGraph(r, 3+r.Intn(14))
		s := anyState(r, g)
		l := anyRecords(r, 5)
		out, behind, e := Run(g, s, l)
		var orders func(at int)
		orders = func(at int) {
			if at == len(l) {
				again, state, f := Run(g, s, l)
				if e != f || !slices.Equal(out, again) || !equalStates(behind, state) {
					t.Fatalf("Run(%v, %v, %v) = %v, %v, %d; in another order %v, %v, %d", g, s, l, again, state, f, out, behind, e)
				}
			}
			for i := at; i < len(l); i++ {
				l[at], l[i] = l[i], l[at]
				orders(at + 1)
				l[at], l[i] = l[i], l[at]
			}
		}
		orders(0)
	}
}

// P12.3: the records' order never counts: many records, some orders.
func TestOrdersByChance(t *testing.T) {
	r := rand.New(rand.NewSource(7))
	for range 200 {
		g := anyGraph(r, 3+r.Intn(14))
		s := anyState(r, g)
		l := anyRecords(r, r.Intn(100))
		out, behind, e := Run(g, s, l)
		for range 5 {
			r.Shuffle(len(l), func(i, j int) { l[i], l[j] = l[j], l[i] })
			again, state, f := Run(g, s, l)
			if e != f || !slices.Equal(out, again) || !equalStates(behind, state) {
				t.Fatalf("Run(%v, %v, ..) hangs on the order", g, s)
			}
		}
	}
}

// straight: does no fold and no join stand ahead of a fold.
func straight(g api.Graph) bool {
	ways := graph.Reaches(g)
	for a, op := range g.Ops {
		for b := a + 1; b < len(g.Ops); b++ {
			if (op.Kind == 4 || op.Kind == 5) && g.Ops[b].Kind == 4 && ways[a][b] {
				return false
			}
		}
	}
	return true
}

// P12.3: records in two epochs leave the state that they leave in one, wherever they are parted. (Where a fold or a join stands ahead of a fold they needn't: see the next test.)
func TestTwoEpochs(t *testing.T) {
	r := rand.New(rand.NewSource(8))
	held := 0
	for range 3000 {
		g := anyGraph(r, 3+r.Intn(8))
		if !straight(g) {
			continue
		}
		s := anyState(r, g)
		l := anyRecords(r, r.Intn(30))
		_, once, e := Run(g, s, l)
		if e != api.OK {
			continue
		}
		for part := 0; part <= len(l); part += 1 + r.Intn(4) {
			_, first, _ := Run(g, s, l[:part])
			_, second, e := Run(g, first, l[part:])
			if e != api.OK || !equalStates(second, once) {
				t.Fatalf("Run(%v, %v, %v), parted at %d: %v, %d; want %v", g, s, l, part, second, e, once)
			}
		}
		held++
	}
	if held < 500 {
		t.Errorf("only %d graphs were held", held)
	}
}

// P12.2, where P12.3 can't hold: what a fold or a join gives in an epoch is given again in the next one, so a fold behind it has it twice.
func TestFoldBehindFold(t *testing.T) {
	g := graphOf(source(-1), foldOf(0, 0), foldOf(1, 0), sink(2))
	s := wantRun(t, g, api.State{}, records("a 1, a 2"), "a 3")
	wantState(t, s, "", "a 3", "a 3", "")
	s = wantRun(t, g, api.State{}, records("a 1"), "a 1")
	s = wantRun(t, g, s, records("a 2"), "a 4")
	wantState(t, s, "", "a 3", "a 4", "")

	g = graphOf(source(0), source(1), two(5, 0, 1, 0), foldOf(2, 0), sink(3))
	s = wantRun(t, g, api.State{}, slices.Concat(inPart(0, "a 1"), inPart(1, "a 2")), "a 3")
	wantState(t, s, "", "", "", "a 3", "")
	s = wantRun(t, g, api.State{}, inPart(0, "a 1"), "")
	s = wantRun(t, g, s, inPart(1, "a 2"), "")
	wantState(t, s, "", "", "", "", "")
}

// P12.4: a run asked again answers the same: nothing is kept, and no order of a map is seen.
func TestAskedAgain(t *testing.T) {
	r := rand.New(rand.NewSource(9))
	for range 100 {
		g := anyGraph(r, 3+r.Intn(14))
		s, l := anyState(r, g), anyRecords(r, 40)
		for range 4 {
			wantByRule(t, g, s, l)
		}
	}
}

// spoilPairs writes over a list and the room behind it.
func spoilPairs(l []api.Pair) {
	room := l[:cap(l)]
	for i := range room {
		room[i] = api.Pair{Key: "spoilt", Val: 77}
	}
}

// P12.4: what is handed in stays, and what stands behind its lists.
func TestNothingIsChanged(t *testing.T) {
	r := rand.New(rand.NewSource(10))
	for range 300 {
		g := anyGraph(r, 3+r.Intn(14))
		s, l := anyState(r, g), anyRecords(r, 30)
		ops := slices.Concat(g.Ops, []api.Op{foldOf(0, 3), sink(2)})
		for i := range ops {
			ops[i].In = append(slices.Clone(ops[i].In), 55, 66)[:len(ops[i].In)]
		}
		folds := append(cloneState(s).Folds, pairs("q 1"))
		for i := range folds {
			folds[i] = append(slices.Clone(folds[i]), pairs("y 8, z 9")...)[:len(folds[i])]
		}
		beforeOps, beforeFolds, beforeRecords := cloneGraph(graphOf(ops...)), cloneState(stateOf(folds...)), slices.Clone(l)
		g2, s2 := graphOf(ops[:len(g.Ops)]...), stateOf(folds[:len(s.Folds)]...)
		wantByRule(t, g2, s2, l[:20])
		Good(g2, s2)
		Empty(g2)
		for i := range ops {
			room := ops[i].In[:len(ops[i].In)+2]
			if !slices.Equal(room[:len(room)-2], beforeOps.Ops[i].In) || room[len(room)-2] != 55 || room[len(room)-1] != 66 {
				t.Fatalf("the inputs of %d have changed", i)
			}
		}
		for i := range folds {
			room := folds[i][:len(folds[i])+2]
			if !slices.Equal(room[:len(room)-2], beforeFolds.Folds[i]) || !slices.Equal(room[len(room)-2:], pairs("y 8, z 9")) {
				t.Fatalf("what %d keeps has changed", i)
			}
		}
		if !slices.Equal(l, beforeRecords) || ops[len(g.Ops)].Arg != 3 || ops[len(g.Ops)].Kind != 4 {
			t.Fatal("the records or the operators have changed")
		}
	}
	l := append(pairs("b 1, a 2, c 0"), pairs("a 0, b 0")...)
	Order(l[:3])
	if !slices.Equal(l, pairs("b 1, a 2, c 0, a 0, b 0")) {
		t.Errorf("Order left %v", l)
	}
}

// P12.4: an answer shares nothing with what was handed in, nor its lists with one another.
func TestAnswersAreNew(t *testing.T) {
	r := rand.New(rand.NewSource(11))
	for range 300 {
		g := anyGraph(r, 3+r.Intn(14))
		s, l := anyState(r, g), anyRecords(r, 30)
		wantOut, wantBehind, e := runByRule(g, s, l)
		if e != api.OK {
			continue
		}
		given := cloneState(s)
		out, behind, _ := Run(g, given, l)
		for _, kept := range given.Folds {
			spoilPairs(kept)
		}
		clear(given.Folds)
		if !slices.Equal(out, wantOut) || !equalStates(behind, wantBehind) {
			t.Fatalf("an answer has changed with the state that was handed in: %v", g)
		}
		spoilPairs(out)
		if !equalStates(behind, wantBehind) {
			t.Fatalf("the state has changed with what came out: %v", g)
		}
		for i := range behind.Folds {
			spoilPairs(behind.Folds[i])
			for j := i + 1; j < len(behind.Folds); j++ {
				if !slices.Equal(behind.Folds[j], wantBehind.Folds[j]) {
					t.Fatalf("the lists %d and %d share memory", i, j)
				}
			}
		}
		wantByRule(t, g, s, l)
	}
}

// P12.4: of Order and Empty too; and a state that was handed in may be used again behind a run that had it.
func TestOtherAnswersAreNew(t *testing.T) {
	l := pairs("a 1, b 2, c 3")
	got := Order(l)
	spoilPairs(got)
	if !slices.Equal(l, pairs("a 1, b 2, c 3")) {
		t.Errorf("Order shares memory: %v", l)
	}
	got = Order(l)
	spoilPairs(l)
	if !slices.Equal(got, pairs("a 1, b 2, c 3")) {
		t.Errorf("Order shares memory: %v", got)
	}
	g := through(foldOf(0, 0))
	first, second := Empty(g), Empty(g)
	first.Folds[1] = pairs("a 1")
	if len(second.Folds[1]) != 0 {
		t.Error("two empty states share memory")
	}
	s := wantRun(t, g, api.State{}, records("a 1, b 2"), "a 1, b 2")
	for range 3 {
		wantRun(t, g, s, records("a 1, c 1"), "a 2, c 1")
	}
	wantState(t, s, "", "a 1, b 2", "")
}

// P12.4: an epoch that is refused leaves all as it was.
func TestRefusedChangesNothing(t *testing.T) {
	g := graphOf(source(-1), foldOf(0, 0), union(0, 0), union(2, 2), union(3, 3), union(4, 4), sink(1))
	s := stateOf(nil, pairs("k 5"), nil, nil, nil, nil, nil)
	l := records(strings.Repeat("k 1, ", 257))
	wantRefused(t, g, s, l, api.ErrLong)
	wantState(t, s, "", "k 5", "", "", "", "", "")
	wantState(t, wantRun(t, g, s, l[:256], "k 261"), "", "k 261", "", "", "", "", "")
}
