package graph

import (
	"iter"
	"math"
	"math/rand"
	"slices"
	"testing"

	"millrace/api"
)

// The signatures.
var (
	_ func(api.Graph) (int, api.Errno)         = Check
	_ func(api.Graph, int) iter.Seq2[int, int] = Uses
	_ func(api.Graph) [][]bool                 = Reaches
)

const most = math.MaxUint32

// edge is a use of an operator: the user's number, and which of its inputs it is.
type edge struct{ op, input int }

// rule is what the chapter asks of a kind: how many inputs, from where to where its Arg goes, whether it may have a Num.
type rule struct {
	inputs, argFrom, argTo int
	num                    bool
}

func rules() map[int]rule {
	return map[int]rule{
		1: {0, -1, 7, false},
		2: {1, 0, 5, true},
		3: {1, 0, 3, true},
		4: {1, 0, 6, false},
		5: {2, 0, 6, false},
		6: {2, 0, 0, false},
		7: {1, 0, 5, true},
		8: {1, 0, 0, false},
	}
}

func between(from, n, to int) bool { return from <= n && n <= to }

// rightByRule asks the chapter's rules one by one, of the operator at the place.
func rightByRule(ops []api.Op, at int) bool {
	op := ops[at]
	asked, is := rules()[op.Kind]
	right := is && len(op.In) == asked.inputs && between(asked.argFrom, op.Arg, asked.argTo)
	for _, in := range op.In {
		right = right && between(0, in, at-1)
	}
	if op.Kind == 8 && at != len(ops)-1 || op.Kind != 8 && at == len(ops)-1 {
		right = false
	}
	if op.Num != 0 && !asked.num {
		right = false
	}
	if op.Kind == 7 {
		return right && between(1, op.Rounds, 16) && between(0, op.Test, 3)
	}
	return right && op.Rounds == 0 && op.Test == 0 && op.Lim == 0
}

func checkByRule(g api.Graph) (int, api.Errno) {
	if !between(1, len(g.Ops), 16) {
		return 0, 2
	}
	for at := range g.Ops {
		if !rightByRule(g.Ops, at) {
			return at, 13
		}
	}
	return 0, 0
}

// leadsByRule goes back from the end over the inputs.
func leadsByRule(g api.Graph, from, to int) bool {
	return from == to || slices.ContainsFunc(g.Ops[to].In, func(in int) bool { return leadsByRule(g, from, in) })
}

func wantCheck(t *testing.T, g api.Graph, at int, e api.Errno) {
	t.Helper()
	if gotAt, got := Check(g); gotAt != at || got != e {
		t.Errorf("Check(%v) = %d, %d; want %d, %d", g, gotAt, got, at, e)
	}
}

// usesOf gathers what is told.
func usesOf(told iter.Seq2[int, int]) []edge {
	var l []edge
	for op, input := range told {
		l = append(l, edge{op, input})
	}
	return l
}

func wantUses(t *testing.T, g api.Graph, from int, want ...edge) {
	t.Helper()
	if got := usesOf(Uses(g, from)); !slices.Equal(got, want) {
		t.Errorf("Uses(%v, %d) = %v, want %v", g, from, got, want)
	}
}

// wantReaches holds the answer against rows of 0 and 1.
func wantReaches(t *testing.T, g api.Graph, want ...string) {
	t.Helper()
	var rows []string
	for _, row := range Reaches(g) {
		text := ""
		for _, leads := range row {
			text += map[bool]string{false: "0", true: "1"}[leads]
		}
		rows = append(rows, text)
	}
	if !slices.Equal(rows, want) {
		t.Errorf("Reaches(%v) = %q, want %q", g, rows, want)
	}
}

func graphOf(ops ...api.Op) api.Graph { return api.Graph{Ops: ops} }

// rightOp is a plain right operator of the kind, for the place.
func rightOp(kind, at int) api.Op {
	op := api.Op{Kind: kind}
	for range rules()[kind].inputs {
		op.In = append(op.In, at-1)
	}
	if kind == 7 {
		op.Rounds = 1
	}
	return op
}

// row is a right graph of so many operators: a source, maps one of the other, a sink; of one operator alone it isn't right.
func row(many int) api.Graph {
	g := graphOf(api.Op{Kind: 1})
	for at := 1; at < many-1; at++ {
		g.Ops = append(g.Ops, rightOp(2, at))
	}
	if many > 1 {
		g.Ops = append(g.Ops, rightOp(8, many-1))
	}
	return g
}

// with is the row of so many operators with another one at the place.
func with(many, at int, op api.Op) api.Graph {
	g := row(many)
	g.Ops[at] = op
	return g
}

func cloneGraph(g api.Graph) api.Graph {
	ops := slices.Clone(g.Ops)
	for i := range ops {
		ops[i].In = slices.Clone(ops[i].In)
	}
	return api.Graph{Ops: ops}
}

func equalOp(a, b api.Op) bool {
	return a.Kind == b.Kind && slices.Equal(a.In, b.In) && a.Arg == b.Arg && a.Num == b.Num && a.Rounds == b.Rounds && a.Test == b.Test && a.Lim == b.Lim
}

// farNumbers are numbers that stand for no operator, no kind, no Arg; some of them a narrower int would take for small ones.
func farNumbers() []int {
	return []int{-2, -3, -16, -256, -1 << 31, -1 << 32, 1 - 1<<32, 8 - 1<<32, math.MinInt, math.MinInt + 1,
		17, 18, 255, 256, 257, 1 << 16, 1 << 31, 1 << 32, 1<<32 + 1, 1<<32 + 8, math.MaxInt - 1, math.MaxInt}
}

// P11.1, P11.2: the chapter's examples.
func TestExamples(t *testing.T) {
	source := api.Op{Kind: api.OSource}
	sinkOf1 := api.Op{Kind: api.OSink, In: []int{1}}
	wantCheck(t, graphOf(source, api.Op{Kind: api.OMap, In: []int{0}}, sinkOf1), 0, api.OK)
	wantCheck(t, graphOf(source), 0, api.ErrGraph)
	wantCheck(t, graphOf(source, sinkOf1), 1, api.ErrGraph)
	g := graphOf(source, api.Op{Kind: api.OUnion, In: []int{0, 0}}, sinkOf1)
	wantCheck(t, g, 0, api.OK)
	wantUses(t, g, 0, edge{1, 0}, edge{1, 1})
	wantUses(t, g, 1, edge{2, 0})
	wantUses(t, g, 2)
	wantReaches(t, g, "111", "011", "001")
}

// P11.1: each kind stands in some right graph.
func TestRightGraphs(t *testing.T) {
	source, all := api.Op{Kind: api.OSource, Arg: 3}, api.Op{Kind: api.OSource, Arg: -1}
	sink := func(of int) api.Op { return api.Op{Kind: api.OSink, In: []int{of}} }
	for _, g := range []api.Graph{
		graphOf(all, sink(0)),
		graphOf(source, all, sink(1)),
		graphOf(source, api.Op{Kind: api.OSource, Arg: 7, In: []int{}}, sink(0)),
		graphOf(all, api.Op{Kind: api.OMap, In: []int{0}, Arg: 5, Num: most}, sink(1)),
		graphOf(all, api.Op{Kind: api.OFilter, In: []int{0}, Arg: 3, Num: most}, sink(1)),
		graphOf(all, api.Op{Kind: api.OFold, In: []int{0}, Arg: 6}, sink(1)),
		graphOf(all, source, api.Op{Kind: api.OJoin, In: []int{1, 0}, Arg: 6}, sink(2)),
		graphOf(all, api.Op{Kind: api.OJoin, In: []int{0, 0}}, sink(0)),
		graphOf(all, source, api.Op{Kind: api.OUnion, In: []int{0, 1}}, sink(2)),
		graphOf(all, api.Op{Kind: api.OLoop, In: []int{0}, Arg: 5, Num: most, Rounds: 16, Test: 3, Lim: most}, sink(1)),
		graphOf(all, api.Op{Kind: api.OLoop, In: []int{0}, Rounds: 1}, sink(1)),
	} {
		wantCheck(t, g, 0, api.OK)
	}
}

// P11.1: no operators, or too many; nothing else counts then.
func TestHowMany(t *testing.T) {
	for many := 2; many <= 16; many++ {
		wantCheck(t, row(many), 0, api.OK)
	}
	wantCheck(t, row(1), 0, api.ErrGraph)
	for _, many := range []int{17, 18, 32, 255, 256, 257, 1000, 1<<16 + 3} {
		wantCheck(t, row(many), 0, api.ErrLong)
		wantCheck(t, graphOf(make([]api.Op, many)...), 0, api.ErrLong)
		wantCheck(t, with(many, 4, api.Op{Kind: 9}), 0, api.ErrLong)
	}
	for _, none := range [][]api.Op{nil, {}, make([]api.Op, 0, 4), row(3).Ops[:0]} {
		wantCheck(t, api.Graph{Ops: none}, 0, api.ErrLong)
	}
}

// P11.1: a kind that isn't there, at each place.
func TestNoKind(t *testing.T) {
	for at := range 16 {
		for _, kind := range append([]int{-1, 0, 9, 10, 16}, farNumbers()...) {
			op := rightOp(2, at)
			op.Kind = kind
			wantCheck(t, with(16, at, op), at, api.ErrGraph)
			op.In = nil
			wantCheck(t, with(16, at, op), at, api.ErrGraph)
			op.In = []int{0, 0}
			wantCheck(t, with(16, at, op), at, api.ErrGraph)
		}
	}
}

// P11.1: each kind at each place: those with inputs not at the front, the sink at the end, and nothing else there.
func TestKindsAtPlaces(t *testing.T) {
	for many := 1; many <= 16; many++ {
		for at := range many {
			for kind := 1; kind <= 8; kind++ {
				g := with(many, at, rightOp(kind, at))
				if (kind == 1 || at > 0) && (kind == 8) == (at == many-1) {
					wantCheck(t, g, 0, api.OK)
				} else {
					wantCheck(t, g, at, api.ErrGraph)
				}
			}
		}
	}
}

// placeOf is a place in the row for an operator of the kind, and how long the row is.
func placeOf(kind int) (many, at int) {
	if kind == 8 {
		return 6, 5
	}
	return 7, 5
}

// P11.1: how many inputs each kind has.
func TestHowManyInputs(t *testing.T) {
	for kind, asked := range rules() {
		many, at := placeOf(kind)
		for _, inputs := range []int{0, 1, 2, 3, 4, 5, 9, 16, 256, 257, 258, 1 << 16, 1<<16 + 1, 1<<16 + 2} {
			op := rightOp(kind, at)
			of := slices.Repeat([]int{4, 3, 2, 1, 0}, inputs/5+1)
			for _, op.In = range [...][]int{make([]int, inputs), of[:inputs], of[:inputs:inputs]} {
				if inputs == asked.inputs {
					wantCheck(t, with(many, at, op), 0, api.OK)
				} else {
					wantCheck(t, with(many, at, op), at, api.ErrGraph)
				}
			}
		}
	}
}

// P11.1: inputs are ahead of their operator.
func TestInputsAhead(t *testing.T) {
	for kind, asked := range rules() {
		for at := 1; at < 16; at++ {
			many := 16
			if kind == 8 {
				many = at + 1
			}
			numbers := farNumbers()
			for in := -1; in <= 16; in++ {
				numbers = append(numbers, in)
			}
			for _, in := range numbers {
				for which := range asked.inputs {
					op := rightOp(kind, at)
					op.In[which] = in
					if at == many-1 && kind != 8 {
						continue
					}
					if in >= 0 && in < at {
						wantCheck(t, with(many, at, op), 0, api.OK)
					} else {
						wantCheck(t, with(many, at, op), at, api.ErrGraph)
					}
				}
			}
		}
	}
}

// P11.1: the two inputs by each other.
func TestTwoInputs(t *testing.T) {
	for _, kind := range []int{5, 6} {
		for a := -1; a <= 6; a++ {
			for b := -1; b <= 6; b++ {
				g := with(7, 5, api.Op{Kind: kind, In: []int{a, b}})
				if between(0, a, 4) && between(0, b, 4) {
					wantCheck(t, g, 0, api.OK)
				} else {
					wantCheck(t, g, 5, api.ErrGraph)
				}
			}
		}
	}
}

// P11.1: from where to where each kind's Arg goes.
func TestArgs(t *testing.T) {
	for kind, asked := range rules() {
		many, at := placeOf(kind)
		args := farNumbers()
		for arg := -1; arg <= 16; arg++ {
			args = append(args, arg)
		}
		for _, arg := range args {
			op := rightOp(kind, at)
			op.Arg = arg
			if between(asked.argFrom, arg, asked.argTo) {
				wantCheck(t, with(many, at, op), 0, api.OK)
			} else {
				wantCheck(t, with(many, at, op), at, api.ErrGraph)
			}
		}
	}
}

// P11.1: which kinds may have a Num or a Lim: any one.
func TestNumAndLim(t *testing.T) {
	for kind, asked := range rules() {
		many, at := placeOf(kind)
		for _, n := range []uint32{0, 1, 2, 31, 32, 255, 256, 65535, 65536, 1<<31 - 1, 1 << 31, most - 1, most} {
			num, lim := rightOp(kind, at), rightOp(kind, at)
			num.Num, lim.Lim = n, n
			if n == 0 || asked.num {
				wantCheck(t, with(many, at, num), 0, api.OK)
			} else {
				wantCheck(t, with(many, at, num), at, api.ErrGraph)
			}
			if n == 0 || kind == 7 {
				wantCheck(t, with(many, at, lim), 0, api.OK)
			} else {
				wantCheck(t, with(many, at, lim), at, api.ErrGraph)
			}
		}
	}
}

// P11.1: a loop's rounds and test, and that nothing else has them.
func TestRoundsAndTest(t *testing.T) {
	for kind := range rules() {
		many, at := placeOf(kind)
		numbers := farNumbers()
		for n := -1; n <= 17; n++ {
			numbers = append(numbers, n)
		}
		for _, n := range numbers {
			rounds, test := rightOp(kind, at), rightOp(kind, at)
			rounds.Rounds, test.Test = n, n
			if kind == 7 && between(1, n, 16) || kind != 7 && n == 0 {
				wantCheck(t, with(many, at, rounds), 0, api.OK)
			} else {
				wantCheck(t, with(many, at, rounds), at, api.ErrGraph)
			}
			if kind == 7 && between(0, n, 3) || n == 0 {
				wantCheck(t, with(many, at, test), 0, api.OK)
			} else {
				wantCheck(t, with(many, at, test), at, api.ErrGraph)
			}
		}
	}
}

// P11.1: of two that aren't right the first one is told.
func TestFirstWrong(t *testing.T) {
	for a := range 16 {
		for b := a + 1; b < 16; b++ {
			for kind := 1; kind <= 7; kind++ {
				g := row(16)
				g.Ops[a].Test = 1
				g.Ops[b] = rightOp(kind, b)
				g.Ops[b].In = append(g.Ops[b].In, 0)
				wantCheck(t, g, a, api.ErrGraph)
				g.Ops[a].Test = 0
				wantCheck(t, g, b, api.ErrGraph)
			}
		}
	}
}

// anyGraph is a right graph of so many operators, by chance.
func anyGraph(r *rand.Rand, many int) api.Graph {
	var g api.Graph
	for at := range many {
		kind := 1 + r.Intn(7)
		if at == 0 {
			kind = 1
		} else if at == many-1 {
			kind = 8
		}
		asked := rules()[kind]
		op := api.Op{Kind: kind, Arg: asked.argFrom + r.Intn(asked.argTo-asked.argFrom+1)}
		for range asked.inputs {
			op.In = append(op.In, r.Intn(at))
		}
		if asked.num {
			op.Num = r.Uint32()
		}
		if kind == 7 {
			op.Rounds, op.Test, op.Lim = 1+r.Intn(16), r.Intn(4), r.Uint32()
		}
		g.Ops = append(g.Ops, op)
	}
	return g
}

// spoil changes one thing of an operator to something near by or far off; the graph may be right still.
func spoil(r *rand.Rand, op *api.Op) {
	numbers := farNumbers()
	for n := -1; n <= 17; n++ {
		numbers = append(numbers, n, n)
	}
	n := numbers[r.Intn(len(numbers))]
	switch r.Intn(9) {
	case 0:
		op.Kind = n
	case 1:
		op.Kind = 1 + r.Intn(8)
	case 2:
		op.Arg = n
	case 3:
		op.Num = uint32(n)
	case 4:
		op.Rounds = n
	case 5:
		op.Test = n
	case 6:
		op.Lim = uint32(n)
	case 7:
		op.In = append(op.In, r.Intn(16))
	case 8:
		if len(op.In) > 0 {
			op.In[r.Intn(len(op.In))] = n
		}
	}
}

// P11.1, P11.2, P11.3: graphs by chance, right ones and spoilt ones, against the rules.
func TestByChance(t *testing.T) {
	r := rand.New(rand.NewSource(1))
	wrong := 0
	for range 6000 {
		g := anyGraph(r, 2+r.Intn(15))
		for range r.Intn(4) {
			spoil(r, &g.Ops[r.Intn(len(g.Ops))])
		}
		at, e := checkByRule(g)
		wantCheck(t, g, at, e)
		checkUses(t, g)
		checkReaches(t, g, e == api.OK)
		if e != api.OK {
			wrong++
		}
	}
	if !between(1000, wrong, 5000) {
		t.Errorf("%d of 6000 graphs aren't right: too few of the one or the other", wrong)
	}
}

// checkUses holds the uses of each operator, and of some that aren't there, against a look at each input of each operator.
func checkUses(t *testing.T, g api.Graph) {
	t.Helper()
	for from := -3; from < len(g.Ops)+3; from++ {
		var want []edge
		for op := range g.Ops {
			for input := range g.Ops[op].In {
				if g.Ops[op].In[input] == from {
					want = append(want, edge{op, input})
				}
			}
		}
		wantUses(t, g, from, want...)
	}
}

func checkReaches(t *testing.T, g api.Graph, right bool) {
	t.Helper()
	ways := Reaches(g)
	if !right {
		if len(ways) != 0 {
			t.Errorf("Reaches(%v) = %v of a graph that isn't right", g, ways)
		}
		return
	}
	if len(ways) != len(g.Ops) {
		t.Fatalf("Reaches(%v) has %d rows", g, len(ways))
	}
	for from := range g.Ops {
		if len(ways[from]) != len(g.Ops) {
			t.Fatalf("Reaches(%v): row %d has %d", g, from, len(ways[from]))
		}
		for to := range g.Ops {
			if got, want := ways[from][to], leadsByRule(g, from, to); got != want {
				t.Errorf("Reaches(%v): from %d to %d %v, want %v", g, from, to, got, want)
			}
		}
	}
}

// P11.3: all right graphs of few operators, as far as ways count.
func TestSmallGraphs(t *testing.T) {
	var from func(g api.Graph)
	told := 0
	from = func(g api.Graph) {
		at := len(g.Ops)
		for in := range at {
			whole := graphOf(append(slices.Clone(g.Ops), api.Op{Kind: 8, In: []int{in}})...)
			wantCheck(t, whole, 0, api.OK)
			checkUses(t, whole)
			checkReaches(t, whole, true)
			told++
		}
		if at == 4 {
			return
		}
		further := func(op api.Op) { from(graphOf(append(slices.Clone(g.Ops), op)...)) }
		further(api.Op{Kind: 1})
		for a := range at {
			further(api.Op{Kind: 4, In: []int{a}})
			for b := range at {
				further(api.Op{Kind: 6, In: []int{a, b}})
			}
		}
	}
	from(graphOf(api.Op{Kind: 1}))
	if want := 1 + 3*2 + 3*7*3 + 3*7*13*4; told != want {
		t.Errorf("%d graphs, want %d", told, want)
	}
}

// P11.2: uses by hand, in their order.
func TestUsesByHand(t *testing.T) {
	g := graphOf(
		api.Op{Kind: 1},
		api.Op{Kind: 1},
		api.Op{Kind: 5, In: []int{1, 0}},
		api.Op{Kind: 2, In: []int{0}},
		api.Op{Kind: 6, In: []int{0, 0}},
		api.Op{Kind: 6, In: []int{2, 4}},
		api.Op{Kind: 8, In: []int{0}},
	)
	wantCheck(t, g, 0, api.OK)
	wantUses(t, g, 0, edge{2, 1}, edge{3, 0}, edge{4, 0}, edge{4, 1}, edge{6, 0})
	wantUses(t, g, 1, edge{2, 0})
	wantUses(t, g, 2, edge{5, 0})
	wantUses(t, g, 3)
	wantUses(t, g, 4, edge{5, 1})
	wantUses(t, g, 5)
	wantUses(t, g, 6)
	wantReaches(t, g, "1011111", "0110010", "0010010", "0001000", "0000110", "0000010", "0000001")
}

// P11.2: of graphs that aren't right, and of numbers that no operator has.
func TestUsesOfAnyGraph(t *testing.T) {
	for _, none := range []api.Graph{{}, graphOf([]api.Op{}...), graphOf(make([]api.Op, 3)...), graphOf(api.Op{In: []int{}})} {
		for _, from := range append(farNumbers(), -1, 0, 1, 2) {
			wantUses(t, none, from)
		}
	}
	for _, n := range append(farNumbers(), -1, 0, 1, 2, 3) {
		g := graphOf(api.Op{Kind: 99, In: []int{n}}, api.Op{In: []int{5, n, n, 6, n}}, api.Op{Kind: 1, In: []int{7}}, api.Op{Kind: 8, In: []int{8, n}})
		wantUses(t, g, n, edge{0, 0}, edge{1, 1}, edge{1, 2}, edge{1, 4}, edge{3, 1})
		wantUses(t, g, 5, edge{1, 0})
		wantUses(t, g, 9)
		if len(Reaches(g)) != 0 {
			t.Errorf("Reaches(%v) isn't empty", g)
		}
	}
	long := row(1000)
	wantUses(t, long, 16, edge{17, 0})
	wantUses(t, long, 998, edge{999, 0})
	wantUses(t, long, 999)
	wide := graphOf(api.Op{In: make([]int, 5000)})
	if l := usesOf(Uses(wide, 0)); len(l) != 5000 || l[4999] != (edge{0, 4999}) {
		t.Errorf("%d uses of 5000", len(l))
	}
}

// P11.3: a way of all lengths; sources that lead nowhere.
func TestReachesByHand(t *testing.T) {
	for many := 2; many <= 16; many++ {
		ways := Reaches(row(many))
		for from := range many {
			for to := range many {
				if ways[from][to] != (from <= to) {
					t.Errorf("row of %d: from %d to %d %v", many, from, to, ways[from][to])
				}
			}
		}
	}
	alone := graphOf(make([]api.Op, 4)...)
	for at := range alone.Ops {
		alone.Ops[at].Kind = 1
	}
	alone.Ops = append(alone.Ops, api.Op{Kind: 8, In: []int{3}})
	wantReaches(t, alone, "10000", "01000", "00100", "00011", "00001")
	twice := row(16)
	for at := 1; at < 15; at++ {
		twice.Ops[at] = api.Op{Kind: 6, In: []int{at - 1, max(at-2, 0)}}
	}
	checkReaches(t, twice, true)
}

// P11.3: of a graph that isn't right none, whatever is wrong.
func TestReachesOfWrong(t *testing.T) {
	for _, g := range []api.Graph{
		{}, row(1), row(17), row(40), graphOf(make([]api.Op, 16)...),
		with(5, 4, api.Op{Kind: 8, In: []int{4}}), with(5, 2, api.Op{Kind: 2, In: []int{3}}), with(5, 2, api.Op{Kind: 2, In: []int{2}}),
		with(5, 2, api.Op{Kind: 2, In: []int{-1}}), with(5, 2, api.Op{Kind: 2, In: []int{5}}), with(5, 2, api.Op{Kind: 2, In: []int{1}, Lim: 1}),
		with(5, 0, api.Op{Kind: 8}), with(5, 4, api.Op{Kind: 2, In: []int{3}}),
	} {
		if ways := Reaches(g); len(ways) != 0 {
			t.Errorf("Reaches(%v) = %v", g, ways)
		}
	}
}

// P11.4: the range may be left behind any use, and come again; ranges of one answer don't count for one another.
func TestRangesLeft(t *testing.T) {
	g := graphOf(api.Op{Kind: 1}, api.Op{Kind: 6, In: []int{0, 0}}, api.Op{Kind: 2, In: []int{0}}, api.Op{Kind: 5, In: []int{0, 1}}, api.Op{Kind: 8, In: []int{0}})
	want := []edge{{1, 0}, {1, 1}, {2, 0}, {3, 0}, {4, 0}}
	told := Uses(g, 0)
	for leave := range len(want) {
		var got []edge
		for op, input := range told {
			if got = append(got, edge{op, input}); len(got) > leave {
				break
			}
		}
		if !slices.Equal(got, want[:leave+1]) {
			t.Errorf("left behind %d: %v", leave+1, got)
		}
	}
	rounds := 0
	for range told {
		if rounds++; !slices.Equal(usesOf(told), want) {
			t.Errorf("a range within a range: %v", usesOf(told))
		}
	}
	if rounds != len(want) || !slices.Equal(usesOf(told), want) {
		t.Errorf("ranged over again: %v, %d rounds", usesOf(told), rounds)
	}
}

// P11.4: what was asked tells the graph as it was then.
func TestGraphChangedBehind(t *testing.T) {
	g := graphOf(api.Op{Kind: 1}, api.Op{Kind: 6, In: []int{0, 0}}, api.Op{Kind: 8, In: []int{0}})
	want := []edge{{1, 0}, {1, 1}, {2, 0}}
	told, ways := Uses(g, 0), Reaches(g)
	g.Ops[1].In[0] = 7
	if got := usesOf(told); !slices.Equal(got, want) {
		t.Errorf("an input changed: %v", got)
	}
	g.Ops[1], g.Ops[2] = api.Op{}, api.Op{In: []int{0, 0, 0}}
	for op, input := range told {
		g.Ops[0].In = append(g.Ops[0].In, 0)
		if !slices.Contains(want, edge{op, input}) {
			t.Errorf("an operator changed: %d, %d", op, input)
		}
	}
	if !ways[0][1] || !ways[0][2] || ways[1][2] {
		t.Errorf("Reaches has changed: %v", ways)
	}
	wantUses(t, g, 0, edge{0, 0}, edge{0, 1}, edge{0, 2}, edge{2, 0}, edge{2, 1}, edge{2, 2})
}

// P11.4: rows share nothing, not even the room behind them, with one another, with other answers.
func TestReachesIsNew(t *testing.T) {
	g := anyGraph(rand.New(rand.NewSource(2)), 12)
	ways := Reaches(g)
	for _, row := range ways {
		clear(row[:cap(row)])
	}
	for at, row := range ways {
		room := row[:cap(row)]
		for i := range room {
			room[i] = true
		}
		for other := range ways {
			if slices.Contains(ways[other], true) != (other == at) {
				t.Errorf("rows %d and %d share places", at, other)
			}
		}
		clear(room)
	}
	checkReaches(t, g, true)
}

// P11.4: the graph stays, and what stands behind its lists, which doesn't count.
func TestGraphStays(t *testing.T) {
	r := rand.New(rand.NewSource(3))
	for range 200 {
		room := anyGraph(r, 16)
		for at := range room.Ops {
			for len(room.Ops[at].In) < 4 {
				room.Ops[at].In = append(room.Ops[at].In, r.Intn(16))
			}
		}
		before := cloneGraph(room)
		for many := range 17 {
			g := graphOf(slices.Clone(room.Ops[:many])...)
			for at := range g.Ops {
				g.Ops[at].In = room.Ops[at].In[:r.Intn(3)]
			}
			at, e := checkByRule(g)
			wantCheck(t, g, at, e)
			checkUses(t, g)
			checkReaches(t, g, e == api.OK)
			part := api.Graph{Ops: room.Ops[:many]}
			at, e = checkByRule(part)
			wantCheck(t, part, at, e)
			checkUses(t, part)
			checkReaches(t, part, e == api.OK)
		}
		if !slices.EqualFunc(room.Ops, before.Ops, equalOp) {
			t.Fatal("a graph has changed")
		}
	}
}

// P11.4: right graphs with room behind their lists are answered as without, and the room stays.
func TestRoomBehind(t *testing.T) {
	r := rand.New(rand.NewSource(4))
	for range 500 {
		g := anyGraph(r, 2+r.Intn(15))
		many := len(g.Ops)
		whole := append(cloneGraph(g).Ops, api.Op{Kind: 1}, api.Op{In: []int{0}})
		for at := range many {
			whole[at].In = append(whole[at].In, 0, 17)
		}
		before := cloneGraph(api.Graph{Ops: whole})
		roomy := slices.Clone(whole)
		for at := range many {
			roomy[at].In = roomy[at].In[:len(g.Ops[at].In)]
		}
		part := api.Graph{Ops: roomy[:many]}
		wantCheck(t, part, 0, api.OK)
		checkUses(t, part)
		checkReaches(t, part, true)
		if !slices.EqualFunc(whole, before.Ops, equalOp) || !slices.EqualFunc(roomy[many:], before.Ops[many:], equalOp) {
			t.Fatal("the room behind a list has changed")
		}
	}
}

// P11.1, P11.2, P11.3: what was asked before doesn't count.
func TestNothingIsKept(t *testing.T) {
	r := rand.New(rand.NewSource(5))
	var asked []api.Graph
	for range 50 {
		g := anyGraph(r, 2+r.Intn(15))
		spoil(r, &g.Ops[r.Intn(len(g.Ops))])
		asked = append(asked, g)
	}
	for range 3 {
		for _, i := range r.Perm(len(asked)) {
			at, e := checkByRule(asked[i])
			wantCheck(t, asked[i], at, e)
			checkUses(t, asked[i])
			checkReaches(t, asked[i], e == api.OK)
		}
	}
}
