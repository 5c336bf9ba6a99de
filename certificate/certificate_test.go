package certificate

import (
	"math"
	"slices"
	"testing"

	"flightdeck/api"
)

func edge(from, to int, cost int64) api.Edge { return api.Edge{From: from, To: to, Cost: cost} }

// square is the chapter's example.
func square() api.Graph {
	return api.Graph{N: 4, Edges: []api.Edge{edge(0, 1, 5), edge(0, 2, 2), edge(2, 1, 2), edge(1, 0, 0)}}
}

// P39.1
func TestCheck(t *testing.T) {
	for i, c := range []struct {
		g    api.Graph
		want api.Errno
	}{
		{api.Graph{N: 1}, api.OK}, {api.Graph{N: 512, Edges: slices.Repeat([]api.Edge{edge(0, 511, 1<<40)}, 8192)}, api.OK},
		{api.Graph{}, api.ErrLimit}, {api.Graph{N: -1}, api.ErrLimit}, {api.Graph{N: 513}, api.ErrLimit}, {api.Graph{N: 1, Edges: make([]api.Edge, 8193)}, api.ErrLimit},
		{api.Graph{N: 2, Edges: []api.Edge{edge(0, 2, -1)}}, api.ErrArg}, {api.Graph{N: 2, Edges: []api.Edge{edge(-1, 0, 1)}}, api.ErrArg}, {api.Graph{N: 2, Edges: []api.Edge{edge(0, 1, -1), edge(0, 9, 0)}}, api.ErrRange}, {api.Graph{N: 2, Edges: []api.Edge{edge(0, 1, 1<<40+1)}}, api.ErrRange}, {api.Graph{N: 2, Edges: []api.Edge{edge(0, 1, math.MinInt64)}}, api.ErrRange},
	} {
		if e := Check(c.g); e != c.want {
			t.Errorf("case %d: %v", i, e)
		}
		if c.want == api.OK {
			continue
		}
		cost, e1 := Cost(c.g, -1, -1, []int{-1})
		at, e2 := Violated(c.g, nil)
		bound, e3 := Bound(c.g, -1, -1, nil)
		e4 := Accept(c.g, -1, -1, nil, nil)
		pot, e5 := Potentials(c.g, -1)
		route, pots, e6 := Solve(c.g, -1, -1)
		if cost != 0 || at != 0 || bound != 0 || len(pot)+len(route)+len(pots) > 0 {
			t.Errorf("case %d: results beside an error", i)
		}
		for k, e := range []api.Errno{e1, e2, e3, e4, e5, e6} {
			if e != c.want {
				t.Errorf("case %d, function %d: %v", i, k, e)
			}
		}
	}
}

// P39.2
func TestCost(t *testing.T) {
	for i, c := range []struct {
		from, to int
		route    []int
		want     int64
		e        api.Errno
	}{
		{0, 1, []int{1, 2}, 4, api.OK}, {0, 1, []int{0}, 5, api.OK}, {0, 0, nil, 0, api.OK}, {0, 0, []int{0, 3}, 5, api.OK}, {0, 1, []int{0, 3, 1, 2}, 9, api.OK},
		{-1, 0, []int{9}, 0, api.ErrArg}, {0, 4, nil, 0, api.ErrArg}, {4, 4, nil, 0, api.ErrArg}, {0, 1, make([]int, 8193), 0, api.ErrLimit}, {0, 1, []int{3, 4}, 0, api.ErrNone}, {0, 1, []int{-1}, 0, api.ErrNone}, {0, 1, make([]int, 8192), 0, api.ErrOrder}, {0, 1, []int{1, 0}, 0, api.ErrOrder}, {0, 1, []int{1}, 0, api.ErrOrder}, {0, 1, nil, 0, api.ErrOrder}, {2, 1, []int{0}, 0, api.ErrOrder},
	} {
		if cost, e := Cost(square(), c.from, c.to, c.route); cost != c.want || e != c.e {
			t.Errorf("case %d: %d, %v", i, cost, e)
		}
	}
	long := api.Graph{N: 2, Edges: []api.Edge{edge(0, 1, 1<<40), edge(1, 0, 1<<40)}}
	if cost, e := Cost(long, 0, 0, slices.Repeat([]int{0, 1}, 4096)); cost != 8192<<40 || e != api.OK {
		t.Errorf("a long route: %d, %v", cost, e)
	}
}

// P39.3, P39.4, P39.5
func TestPotentialsOf(t *testing.T) {
	const most = MaxPotential
	for i, c := range []struct {
		pot      []int64
		at       int
		violated api.Errno
		bound    int64
		e        api.Errno
	}{
		{[]int64{0, 5, 2, 0}, 2, api.OK, 0, api.ErrOrder}, {[]int64{0, 3, 2, 0}, -1, api.OK, 3, api.OK}, {[]int64{0, 4, 2, 9}, -1, api.OK, 4, api.OK}, {[]int64{0, 6, 2, 0}, 0, api.OK, 0, api.ErrOrder}, {[]int64{-7, -7, -7, -7}, -1, api.OK, 0, api.OK}, {[]int64{1, 0, 1, 1}, 3, api.OK, 0, api.ErrOrder}, {[]int64{0, 0, 3, 0}, 1, api.OK, 0, api.ErrOrder},
		{[]int64{0, 0, 0}, 0, api.ErrArg, 0, api.ErrArg}, {nil, 0, api.ErrArg, 0, api.ErrArg}, {[]int64{0, 0, 0, most + 1}, 0, api.ErrRange, 0, api.ErrRange}, {[]int64{0, -most - 1, 0, 0}, 0, api.ErrRange, 0, api.ErrRange}, {[]int64{-most, most, most, most}, 0, api.OK, 0, api.ErrOrder}, {[]int64{most, most, most, -most}, -1, api.OK, 0, api.OK}, {[]int64{0, 0, 0, math.MinInt64}, 0, api.ErrRange, 0, api.ErrRange},
	} {
		if at, e := Violated(square(), c.pot); at != c.at || e != c.violated {
			t.Errorf("case %d: Violated %d, %v", i, at, e)
		}
		if b, e := Bound(square(), 0, 1, c.pot); b != c.bound || e != c.e {
			t.Errorf("case %d: Bound %d, %v", i, b, e)
		}
		for _, end := range [][2]int{{-1, 0}, {0, 4}} {
			if b, e := Bound(square(), end[0], end[1], c.pot); b != 0 || e != api.ErrArg {
				t.Errorf("case %d: Bound from %v: %d, %v", i, end, b, e)
			}
		}
		want := c.e
		if want == api.OK && c.bound != 4 {
			want = api.ErrConflict
		}
		if e := Accept(square(), 0, 1, c.pot, []int{1, 2}); e != want {
			t.Errorf("case %d: Accept %v, want %v", i, e, want)
		}
		if e := Accept(square(), 0, 1, c.pot, []int{2, 1}); e != api.ErrOrder {
			t.Errorf("case %d: Accept of no route %v", i, e)
		}
	}
	if e := Accept(square(), 0, 1, []int64{0, 4, 2, 4}, []int{0}); e != api.ErrConflict {
		t.Errorf("a dearer route: %v", e)
	}
	if e := Accept(square(), 0, 1, nil, []int{7}); e != api.ErrNone {
		t.Errorf("the route goes first: %v", e)
	}
}

// relaxed returns the least cost and number of edges to each node, by rounds over all edges.
func relaxed(g api.Graph, from int) [][2]int64 {
	best := make([][2]int64, g.N)
	for i := range best {
		best[i] = [2]int64{-1, 0}
	}
	best[from] = [2]int64{0, 0}
	for range g.N {
		for _, x := range g.Edges {
			if best[x.From][0] < 0 {
				continue
			}
			n := [2]int64{best[x.From][0] + x.Cost, best[x.From][1] + 1}
			old := best[x.To]
			if old[0] < 0 || n[0] < old[0] || n[0] == old[0] && n[1] < old[1] {
				best[x.To] = n
			}
		}
	}
	return best
}

// P39.6, P39.7
func TestSolve(t *testing.T) {
	x := uint64(39)
	next := func(n int) int {
		x = x*6364136223846793005 + 1442695040888963407
		return int(x>>33) % n
	}
	routes := 0
	for range 1500 {
		g := api.Graph{N: 1 + next(9)}
		for range next(25) {
			g.Edges = append(g.Edges, edge(next(g.N), next(g.N), int64(next(4))))
		}
		from, to := next(g.N), next(g.N)
		best := relaxed(g, from)
		pot, e := Potentials(g, from)
		for i := range best {
			if e != api.OK || pot[i] != best[i][0] {
				t.Fatalf("%v from %d: %v, %v, want %v", g, from, pot, e, best)
			}
		}
		route, pots, e := Solve(g, from, to)
		if best[to][0] < 0 {
			if e != api.ErrNone || len(route)+len(pots) > 0 {
				t.Fatalf("%v from %d to %d: %v, %v", g, from, to, route, e)
			}
			continue
		}
		routes++
		if e != api.OK || int64(len(route)) != best[to][1] {
			t.Fatalf("%v from %d to %d: %v, %v, want %v", g, from, to, route, e, best[to])
		}
		most := slices.Max(pot)
		for i := range pots {
			if pots[i] != pot[i] && (pot[i] >= 0 || pots[i] != most) {
				t.Fatalf("potentials %v, want %v", pots, pot)
			}
		}
		if e := Accept(g, from, to, pots, route); e != api.OK {
			t.Fatalf("%v from %d to %d: %v is not accepted: %v", g, from, to, route, e)
		}
		at := to
		for k := len(route) - 1; k >= 0; k-- { // the least index of those that can be the last one
			want := slices.IndexFunc(g.Edges, func(x api.Edge) bool {
				return x.To == at && best[x.From][0] >= 0 && best[x.From] == [2]int64{best[at][0] - x.Cost, best[at][1] - 1}
			})
			if route[k] != want {
				t.Fatalf("%v from %d to %d: %v, edge %d is %d", g, from, to, route, k, want)
			}
			at = g.Edges[want].From
		}
	}
	if routes < 500 {
		t.Errorf("only %d routes", routes)
	}
}

// The examples of the chapter, and errors.
func TestExamples(t *testing.T) {
	if pot, e := Potentials(square(), 0); !slices.Equal(pot, []int64{0, 4, 2, -1}) || e != api.OK {
		t.Errorf("%v, %v", pot, e)
	}
	if route, pot, e := Solve(square(), 0, 1); !slices.Equal(route, []int{1, 2}) || !slices.Equal(pot, []int64{0, 4, 2, 4}) || e != api.OK {
		t.Errorf("%v, %v, %v", route, pot, e)
	}
	if route, pot, e := Solve(square(), 0, 3); len(route)+len(pot) > 0 || e != api.ErrNone {
		t.Errorf("%v, %v, %v", route, pot, e)
	}
	if route, pot, e := Solve(square(), 3, 3); len(route) > 0 || !slices.Equal(pot, []int64{0, 0, 0, 0}) || e != api.OK {
		t.Errorf("%v, %v, %v", route, pot, e)
	}
	for _, end := range [][2]int{{-1, 0}, {0, 4}, {4, 0}, {math.MaxInt, 0}} {
		if route, pot, e := Solve(square(), end[0], end[1]); len(route)+len(pot) > 0 || e != api.ErrArg {
			t.Errorf("from %v: %v", end, e)
		}
	}
	if pot, e := Potentials(square(), 4); len(pot) > 0 || e != api.ErrArg {
		t.Errorf("%v, %v", pot, e)
	}
}
