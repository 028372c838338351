package replog

import (
	"fmt"
	"slices"
	"strings"
	"testing"

	"millrace/api"
)

// habits are how often each thing happens, of a hundred steps; what is left are deliveries and ticks.
type habits struct {
	lose, double, spoil, late, crash, open, propose, fail, full, drop, split, big, ticks int
}

func (w *world) step(h habits) {
	w.t.Helper()
	i := w.rng.Intn(w.n)
	dice := w.rng.Intn(100)
	chance := func(some int) bool {
		dice -= some
		return dice < 0
	}
	k := 0
	if len(w.post) > 0 {
		k = w.rng.Intn(len(w.post))
	}
	switch {
	case chance(h.crash):
		w.crash(i, w.picks(i))
	case chance(h.open):
		if x := w.nodes[i]; x == nil || x.Broken() || w.rng.Intn(4) == 0 {
			w.open(i) // the disk may refuse the repair
		}
	case chance(h.propose):
		w.propose(w.likely(i), w.some(h))
	case chance(h.fail):
		w.disks[i].Fail(w.rng.Intn(3) == 0)
	case chance(h.full):
		w.disks[i].Limit(min(w.disks[i].Used()+w.rng.Intn(400)*w.rng.Intn(400), bigRoom))
	case chance(h.drop):
		w.drop(i, w.rng.Intn(slices.Min(w.durable)+1))
	case chance(h.split):
		w.divide()
	case chance(h.ticks):
		for range w.rng.Intn(30) {
			w.tick(i)
		}
	case len(w.post) == 0 || len(w.post) < 200 && w.rng.Intn(3) == 0:
		w.tick(i)
	case chance(h.lose):
		w.take(k)
	case chance(h.double):
		w.double(k)
	case chance(h.spoil):
		w.spoil(k)
	case chance(h.late):
		w.deliver(k)
	default:
		w.deliver(0)
	}
}

// likely answers a node that leads, mostly.
func (w *world) likely(i int) int {
	for j, x := range w.nodes {
		if x != nil && x.Leads() && w.rng.Intn(3) > 0 {
			return j
		}
	}
	return i
}

func (w *world) some(h habits) string {
	s := w.text()
	if w.rng.Intn(100) < h.big {
		s += strings.Repeat("x", maxData-len(s)-w.rng.Intn(2000))
	}
	return s
}

func (w *world) picks(i int) []int {
	picks := make([]int, w.rng.Intn(w.disks[i].Pending()+2))
	for j := range picks {
		picks[j] = w.rng.Intn(3) * w.rng.Intn(300)
	}
	return picks
}

// divide lays the nodes on two sides, or on one again.
func (w *world) divide() {
	sides := 1 + w.rng.Intn(2)
	for i := range w.split {
		w.split[i] = w.rng.Intn(sides)
	}
}

var moods = map[string]habits{
	"calm":    {propose: 10},
	"lossy":   {lose: 30, double: 10, spoil: 10, late: 20, propose: 8},
	"crashes": {lose: 5, double: 5, spoil: 5, late: 10, crash: 3, open: 12, propose: 10},
	"disks":   {lose: 5, crash: 2, open: 12, propose: 20, fail: 2, full: 6, double: 3},
	"sides":   {lose: 3, late: 10, propose: 15, split: 2, ticks: 6, crash: 1, open: 6},
	"all":     {lose: 8, double: 6, spoil: 6, late: 15, crash: 2, open: 8, propose: 12, fail: 1, full: 2, split: 2, ticks: 3, drop: 2},
	"drops":   {lose: 3, double: 3, late: 5, crash: 1, open: 8, propose: 30, split: 1, ticks: 2, drop: 8, big: 100},
}

// TestMoods runs worlds in which anything happens, and then calms them (P8.4 to P8.7).
func TestMoods(t *testing.T) {
	for _, mood := range []string{"calm", "lossy", "crashes", "disks", "sides", "all"} {
		t.Run(mood, func(t *testing.T) {
			t.Parallel()
			led, stayed, slowest := 0, 0, 0
			for seed := range int64(42) {
				n := 1 + int(seed)%api.MaxNodes
				w := newWorld(t, n, seed)
				for range 3 {
					for range 400 + 60*n {
						w.step(moods[mood])
					}
					took, _ := w.settle()
					slowest = max(slowest, took)
				}
				led += len(w.leaders)
				stayed += len(w.stay)
			}
			t.Logf("%d terms with a leader, %d entries that stay, %d rounds at most", led, stayed, slowest)
			if led < 42 || stayed < 1500 {
				t.Errorf("too little has happened: %d terms with a leader, %d entries that stay", led, stayed)
			}
		})
	}
}

// TestDropping runs worlds with entries so big that whole segments go (P8.3).
func TestDropping(t *testing.T) {
	for seed := range int64(6) {
		t.Run(fmt.Sprint(seed), func(t *testing.T) {
			t.Parallel()
			w := newWorld(t, 1+int(seed)%3, seed)
			for range 2 {
				for range 500 {
					w.step(moods["drops"])
				}
				w.settle()
			}
			dropped := 0
			for i, x := range w.nodes {
				if e := w.drop(i, x.Commit()); e != api.OK {
					t.Errorf("Drop: %d", e)
				}
				if x.First() > 0 {
					dropped++
				}
			}
			if dropped < w.n {
				t.Errorf("only %d of %d nodes have dropped something", dropped, w.n)
			}
			w.settle()
		})
	}
}
