package fold

import (
	"math"
	"math/rand"
	"slices"
	"testing"
)

const most = math.MaxUint32

// The signatures; and the numbers of how many there are have no type of their own.
var (
	_ func(int, uint32) uint32           = Start
	_ func(int, uint32, uint32) uint32   = Join
	_ func(int, uint32, uint32) uint32   = Map
	_ func(int, uint32, uint32) bool     = Test
	_ func(int, []uint32) (uint32, bool) = All
	_                                    = [...]uint8{Folds, Maps, Tests}
	_                                    = [...]float64{Folds, Maps, Tests}
)

// edges are the numbers at which a sum, a product, a shift or a sign may go wrong.
func edges() []uint32 {
	l := []uint32{0, 1, 2, 3, 5, 7, 8, 10, 31, 32, 33, 63, 64, 65, 255, 256, 1000, 65535, 65536, 65537, 0x55555555, 0xaaaaaaaa}
	for _, n := range []uint32{1 << 30, 1 << 31, most - 64, most - 32, most - 31} {
		l = append(l, n-1, n, n+1)
	}
	return append(l, most-2, most-1, most)
}

// numbersOfNone are numbers that aren't there, of a catalogue of so many.
func numbersOfNone(many int) []int {
	return []int{many, many + 1, many + 2, many + 8, 63, 64, 255, 256, 1 << 31, 1 << 32, 1<<32 + 1, 1<<32 + 3, 1 << 62, math.MaxInt - 1, math.MaxInt,
		-1, -2, -3, -4, -many, -256, -1 << 31, -1 << 32, 1 - 1<<32, math.MinInt + 1, math.MinInt}
}

// bitwise answers the number whose bits are made of those of a and b, one by one.
func bitwise(a, b uint32, bit func(x, y bool) bool) uint32 {
	var n uint32
	for i := range 32 {
		place := uint64(1) << i
		if bit(uint64(a)/place%2 == 1, uint64(b)/place%2 == 1) {
			n += uint32(place)
		}
	}
	return n
}

func xor(x, y bool) bool { return x != y }
func and(x, y bool) bool { return x && y }
func or(x, y bool) bool  { return x || y }

// modulo answers the number modulo 2^32.
func modulo(n uint64) uint32 { return uint32(n % (1 << 32)) }

func joinByTable(which int, a, b uint32) uint32 {
	lesser, greater := a, b
	if int64(b) < int64(a) {
		lesser, greater = b, a
	}
	return []uint32{
		modulo(uint64(a) + uint64(b)), modulo(uint64(a) + uint64(b)), greater, lesser,
		bitwise(a, b, xor), bitwise(a, b, and), bitwise(a, b, or),
	}[which]
}

func startByTable(which int, v uint32) uint32 {
	return []uint32{v, 1, v, v, v, v, v}[which]
}

func mapByTable(which int, n, v uint32) uint32 {
	down := v
	for range n - n/32*32 {
		down /= 2
	}
	return []uint32{
		modulo(uint64(v) + uint64(n)), modulo(uint64(v) * uint64(n)), bitwise(v, n, xor), down, n,
		modulo(uint64(v)*uint64(v) + uint64(n)),
	}[which]
}

func testByTable(which int, n, v uint32) bool {
	divides := false
	if n != 0 {
		divides = v/n*n == v
	}
	return []bool{int64(v) < int64(n), int64(v) >= int64(n), bitwise(v, n, and) > 0, divides}[which]
}

// everyPair tells all pairs of edges, and as many by chance.
func everyPair(yield func(a, b uint32) bool) {
	for _, a := range edges() {
		for _, b := range edges() {
			if !yield(a, b) {
				return
			}
		}
	}
	r := rand.New(rand.NewSource(1))
	for range 2000 {
		if !yield(r.Uint32()>>r.Intn(32), r.Uint32()>>r.Intn(32)) {
			return
		}
	}
}

// P10.1: how many there are.
func TestHowMany(t *testing.T) {
	if Folds != 7 || Maps != 6 || Tests != 4 {
		t.Errorf("%d folds, %d maps, %d tests", Folds, Maps, Tests)
	}
}

// P10.1, P10.2: the chapter's examples.
func TestExamples(t *testing.T) {
	for _, c := range []struct {
		which  int
		values []uint32
		want   uint32
	}{
		{0, []uint32{4294967295, 2}, 1},
		{1, []uint32{5, 5, 5}, 3},
		{3, []uint32{7, 3}, 3},
	} {
		if got, ok := All(c.which, c.values); got != c.want || !ok {
			t.Errorf("All(%d, %v) = %d, %v; want %d", c.which, c.values, got, ok, c.want)
		}
	}
	if got := Map(3, 33, 8); got != 4 {
		t.Errorf("Map(3, 33, 8) = %d, want 4", got)
	}
	if Test(3, 0, 0) {
		t.Error("Test(3, 0, 0) = true")
	}
}

// P10.1: folds by rows written by hand.
func TestFoldsByHand(t *testing.T) {
	for which, want := range []uint32{9, 1, 9, 9, 9, 9, 9} {
		if got := Start(which, 9); got != want {
			t.Errorf("Start(%d, 9) = %d, want %d", which, got, want)
		}
	}
	for _, c := range []struct {
		a, b uint32
		want [7]uint32
	}{
		{12, 10, [7]uint32{22, 22, 12, 10, 6, 8, 14}},
		{10, 12, [7]uint32{22, 22, 12, 10, 6, 8, 14}},
		{0, 0, [7]uint32{}},
		{0, 5, [7]uint32{5, 5, 5, 0, 5, 0, 5}},
		{6, 6, [7]uint32{12, 12, 6, 6, 0, 6, 6}},
		{most, 1, [7]uint32{0, 0, most, 1, most - 1, 1, most}},
		{most, most, [7]uint32{most - 1, most - 1, most, most, 0, most, most}},
		{1 << 31, 1 << 31, [7]uint32{0, 0, 1 << 31, 1 << 31, 0, 1 << 31, 1 << 31}},
		{1 << 31, 1<<31 - 1, [7]uint32{most, most, 1 << 31, 1<<31 - 1, most, 0, most}},
	} {
		for which, want := range c.want {
			if got := Join(which, c.a, c.b); got != want {
				t.Errorf("Join(%d, %d, %d) = %d, want %d", which, c.a, c.b, got, want)
			}
		}
	}
}

// P10.1: maps by rows written by hand.
func TestMapsByHand(t *testing.T) {
	for _, c := range []struct {
		n, v uint32
		want [6]uint32
	}{
		{10, 12, [6]uint32{22, 120, 6, 0, 10, 154}},
		{2, 12, [6]uint32{14, 24, 14, 3, 2, 146}},
		{0, 7, [6]uint32{7, 0, 7, 7, 0, 49}},
		{7, 0, [6]uint32{7, 0, 7, 0, 7, 7}},
		{most, 3, [6]uint32{2, most - 2, most - 3, 0, most, 8}},
		{1, most, [6]uint32{0, most, most - 1, 1<<31 - 1, 1, 2}},
		{32, most, [6]uint32{31, most - 31, most - 32, most, 32, 33}},
		{31, 1 << 31, [6]uint32{1<<31 + 31, 1 << 31, 1<<31 + 31, 1, 31, 31}},
		{65536, 65536, [6]uint32{131072, 0, 0, 65536, 65536, 65536}},
	} {
		for which, want := range c.want {
			if got := Map(which, c.n, c.v); got != want {
				t.Errorf("Map(%d, %d, %d) = %d, want %d", which, c.n, c.v, got, want)
			}
		}
	}
}

// P10.1: tests by rows written by hand.
func TestTestsByHand(t *testing.T) {
	for _, c := range []struct {
		n, v uint32
		want [4]bool
	}{
		{4, 12, [4]bool{false, true, true, true}},
		{12, 4, [4]bool{true, false, true, false}},
		{5, 5, [4]bool{false, true, true, true}},
		{5, 4, [4]bool{true, false, true, false}},
		{4, 11, [4]bool{false, true, false, false}},
		{3, 12, [4]bool{false, true, false, true}},
		{0, 0, [4]bool{false, true, false, false}},
		{0, 6, [4]bool{false, true, false, false}},
		{6, 0, [4]bool{true, false, false, true}},
		{1, most, [4]bool{false, true, true, true}},
		{most, 1, [4]bool{true, false, true, false}},
		{1 << 31, 1<<31 - 1, [4]bool{true, false, false, false}},
		{1<<31 - 1, 1 << 31, [4]bool{false, true, false, false}},
		{1 << 31, most, [4]bool{false, true, true, false}},
	} {
		for which, want := range c.want {
			if got := Test(which, c.n, c.v); got != want {
				t.Errorf("Test(%d, %d, %d) = %v, want %v", which, c.n, c.v, got, want)
			}
		}
	}
}

// P10.1: the tables to the letter, at the edges and by chance.
func TestTables(t *testing.T) {
	for a, b := range everyPair {
		for which := range 7 {
			if got, want := Start(which, a), startByTable(which, a); got != want {
				t.Fatalf("Start(%d, %d) = %d, want %d", which, a, got, want)
			}
			if got, want := Join(which, a, b), joinByTable(which, a, b); got != want {
				t.Fatalf("Join(%d, %d, %d) = %d, want %d", which, a, b, got, want)
			}
		}
		for which := range 6 {
			if got, want := Map(which, a, b), mapByTable(which, a, b); got != want {
				t.Fatalf("Map(%d, %d, %d) = %d, want %d", which, a, b, got, want)
			}
		}
		for which := range 4 {
			if got, want := Test(which, a, b), testByTable(which, a, b); got != want {
				t.Fatalf("Test(%d, %d, %d) = %v, want %v", which, a, b, got, want)
			}
		}
	}
}

// P10.1: a shift by any number, of which 32 are a full turn.
func TestShifts(t *testing.T) {
	for n := range uint32(200) {
		for _, far := range []uint32{n, n + 1<<31, n - 96} {
			if got, want := Map(3, far, most), uint32(1<<(32-n%32)-1); got != want {
				t.Errorf("Map(3, %d, %d) = %d, want %d", far, uint32(most), got, want)
			}
		}
	}
}

// P10.1: a number divides what it is multiplied to, and nothing between; 0 divides nothing.
func TestDivides(t *testing.T) {
	for n := range uint32(50) {
		multiples := map[uint32]int{}
		for k := range uint32(50) {
			multiples[n*k] = 1
		}
		for v := range n*49 + 1 {
			if got, want := Test(3, n, v), n > 0 && multiples[v] == 1; got != want {
				t.Errorf("Test(3, %d, %d) = %v", n, v, got)
			}
		}
	}
}

// P10.1: one test is the other's contrary.
func TestBelowOrAtLeast(t *testing.T) {
	for n, v := range everyPair {
		if Test(0, n, v) == Test(1, n, v) {
			t.Errorf("%d is below %d and at least that, or neither", v, n)
		}
	}
}

// P10.1, P10.2: numbers that aren't there.
func TestNone(t *testing.T) {
	some := []uint32{0, 1, 2, 3, 1 << 31, most - 1, most}
	for _, a := range some {
		for _, b := range some {
			for _, which := range numbersOfNone(7) {
				if start, join := Start(which, a), Join(which, a, b); start != 0 || join != 0 {
					t.Errorf("Start(%d, %d) = %d, Join with %d = %d", which, a, start, b, join)
				}
				if got, ok := All(which, []uint32{a, b}); got != 0 || ok {
					t.Errorf("All(%d, %d and %d) = %d, %v", which, a, b, got, ok)
				}
			}
			for _, which := range numbersOfNone(6) {
				if got := Map(which, a, b); got != 0 {
					t.Errorf("Map(%d, %d, %d) = %d", which, a, b, got)
				}
			}
			for _, which := range numbersOfNone(4) {
				if Test(which, a, b) {
					t.Errorf("Test(%d, %d, %d) = true", which, a, b)
				}
			}
		}
	}
}

// P10.2: of no values nothing, whatever the fold.
func TestAllOfNone(t *testing.T) {
	for _, which := range append([]int{0, 1, 2, 3, 4, 5, 6}, numbersOfNone(7)...) {
		for _, values := range [][]uint32{nil, {}, make([]uint32, 0, 4), []uint32{5, 6}[:0]} {
			if got, ok := All(which, values); got != 0 || ok {
				t.Errorf("All(%d, none) = %d, %v", which, got, ok)
			}
		}
	}
}

// P10.2: of one value what Start makes of it, a nought too.
func TestAllOfOne(t *testing.T) {
	for _, v := range edges() {
		for which := range 7 {
			if got, ok := All(which, []uint32{v}); got != startByTable(which, v) || !ok {
				t.Errorf("All(%d, %d alone) = %d, %v", which, v, got, ok)
			}
		}
	}
}

// P10.2: lists written by hand.
func TestAllByHand(t *testing.T) {
	for _, c := range []struct {
		values []uint32
		want   [7]uint32
	}{
		{[]uint32{0}, [7]uint32{0, 1, 0, 0, 0, 0, 0}},
		{[]uint32{0, 0}, [7]uint32{0, 2, 0, 0, 0, 0, 0}},
		{[]uint32{12, 10, 9}, [7]uint32{31, 3, 12, 9, 15, 8, 15}},
		{[]uint32{9, 10, 12}, [7]uint32{31, 3, 12, 9, 15, 8, 15}},
		{[]uint32{10, 12, 9, 10}, [7]uint32{41, 4, 12, 9, 5, 8, 15}},
		{[]uint32{most, most, most, 3}, [7]uint32{0, 4, most, 3, most - 3, 3, most}},
		{[]uint32{1 << 31, 1 << 31, 1 << 31}, [7]uint32{1 << 31, 3, 1 << 31, 1 << 31, 1 << 31, 1 << 31, 1 << 31}},
		{[]uint32{1 << 31, 0, most}, [7]uint32{1<<31 - 1, 3, most, 0, 1<<31 - 1, 0, most}},
	} {
		for which, want := range c.want {
			if got, ok := All(which, c.values); got != want || !ok {
				t.Errorf("All(%d, %d) = %d, %v; want %d", which, c.values, got, ok, want)
			}
		}
	}
}

func noise(r *rand.Rand, n int) []uint32 {
	values := make([]uint32, n)
	for i := range values {
		values[i] = r.Uint32() >> r.Intn(32)
	}
	return values
}

// P10.2: lists of each length, and a great one, held against the tables.
func TestAllOfMany(t *testing.T) {
	r := rand.New(rand.NewSource(2))
	lengths := []int{511, 512, 513, 4096, 4097, 1 << 18}
	for n := range 70 {
		lengths = append(lengths, n+1)
	}
	for _, n := range lengths {
		values := noise(r, n)
		for which := range 7 {
			want := startByTable(which, values[0])
			for _, v := range values[1:] {
				want = joinByTable(which, want, startByTable(which, v))
			}
			if got, ok := All(which, values); got != want || !ok {
				t.Errorf("All(%d, %d values) = %d, %v; want %d", which, n, got, ok, want)
			}
		}
	}
}

// P10.3: two may change places, and of three any two may be joined first.
func TestJoinsOrder(t *testing.T) {
	for a, b := range everyPair {
		for which := range 7 {
			if x, y := Join(which, a, b), Join(which, b, a); x != y {
				t.Fatalf("Join(%d, ..) of %d and %d: %d, the other way %d", which, a, b, x, y)
			}
			for _, c := range edges() {
				if x, y := Join(which, Join(which, a, b), c), Join(which, a, Join(which, b, c)); x != y {
					t.Fatalf("Join(%d, ..) of %d, %d, %d: %d, grouped otherwise %d", which, a, b, c, x, y)
				}
			}
		}
	}
}

// inAnyOrder tells each order of the values.
func inAnyOrder(values []uint32, told func([]uint32)) {
	var from func(at int)
	from = func(at int) {
		if at == len(values) {
			told(values)
			return
		}
		for i := at; i < len(values); i++ {
			values[at], values[i] = values[i], values[at]
			from(at + 1)
			values[at], values[i] = values[i], values[at]
		}
	}
	from(0)
}

// P10.3: All of values in any order.
func TestAllInAnyOrder(t *testing.T) {
	r := rand.New(rand.NewSource(3))
	lists := [][]uint32{{0, 0, 1}, {most, 1, 0, 1 << 31}, {1 << 31, 1<<31 - 1, most, 1 << 31, 5, 5}}
	for n := range 6 {
		lists = append(lists, noise(r, n+1))
	}
	for _, values := range lists {
		for which := range 7 {
			want, _ := All(which, values)
			inAnyOrder(slices.Clone(values), func(l []uint32) {
				if got, ok := All(which, l); got != want || !ok {
					t.Errorf("All(%d, %d) = %d, %v; in another order %d", which, l, got, ok, want)
				}
			})
		}
	}
	for range 50 {
		values := noise(r, 1000)
		for which := range 7 {
			want, _ := All(which, values)
			r.Shuffle(len(values), func(i, j int) { values[i], values[j] = values[j], values[i] })
			if got, ok := All(which, values); got != want || !ok {
				t.Errorf("All(%d, 1000 values) = %d, %v; in another order %d", which, got, ok, want)
			}
		}
	}
}

// P10.3: any two parts of the values, wherever they stand, joined.
func TestPartsJoined(t *testing.T) {
	r := rand.New(rand.NewSource(4))
	for n := 2; n <= 9; n++ {
		values := noise(r, n)
		for chosen := 1; chosen < 1<<n-1; chosen++ {
			var parts [2][]uint32
			for i, v := range values {
				parts[chosen>>i&1] = append(parts[chosen>>i&1], v)
			}
			for which := range 7 {
				want, _ := All(which, values)
				a, _ := All(which, parts[0])
				b, _ := All(which, parts[1])
				if got := Join(which, a, b); got != want {
					t.Errorf("All(%d, ..) of %d and of %d, joined: %d, want %d", which, parts[0], parts[1], got, want)
				}
			}
		}
	}
}

// P10.3: a long list cut anywhere.
func TestCutAnywhere(t *testing.T) {
	values := noise(rand.New(rand.NewSource(5)), 600)
	for which := range 7 {
		want, _ := All(which, values)
		for at := 1; at < len(values); at++ {
			a, _ := All(which, values[:at])
			b, _ := All(which, values[at:])
			if got := Join(which, a, b); got != want {
				t.Errorf("All(%d, ..), cut at %d and joined: %d, want %d", which, at, got, want)
			}
		}
	}
}

// P10.2: the values stay, and what stands behind them, which doesn't count.
func TestValuesStay(t *testing.T) {
	room := noise(rand.New(rand.NewSource(6)), 40)
	before := slices.Clone(room)
	for which := -1; which <= 7; which++ {
		for n := range len(room) + 1 {
			got, ok := All(which, room[:n])
			alone, is := All(which, slices.Clone(room[:n:n]))
			if got != alone || ok != is {
				t.Errorf("All(%d, %d values) = %d, %v; without room behind them %d, %v", which, n, got, ok, alone, is)
			}
		}
	}
	if !slices.Equal(room, before) {
		t.Error("All has changed its values, or the room behind them")
	}
}

// P10.1, P10.2: what was asked before doesn't count.
func TestNothingIsKept(t *testing.T) {
	ask := func() []uint32 {
		var l []uint32
		for which := -1; which <= 7; which++ {
			all, _ := All(which, []uint32{9, 200, most})
			l = append(l, Start(which, 9), Join(which, 9, 200), Map(which, 9, 200), all)
		}
		return l
	}
	first := ask()
	for range 3 {
		for a, b := range everyPair {
			for which := -1; which <= 7; which++ {
				All(which, []uint32{a, b, Start(which, a), Join(which, a, b), Map(which, a, b)})
			}
		}
		if again := ask(); !slices.Equal(again, first) {
			t.Errorf("asked again: %d, at first %d", again, first)
		}
	}
}
