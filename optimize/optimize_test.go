package optimize

import (
	"math"
	"reflect"
	"slices"
	"testing"

	"flightdeck/api"
	"flightdeck/certificate"
	"flightdeck/performance"
)

func ch(level, speed int) api.Choice { return api.Choice{Level: level, Speed: speed} }

func tables(flow int64) api.Perf {
	return api.Perf{Name: "TEST", Empty: 60_000_000, MaxFuel: 40_000_000, Alts: []int64{0, 4_000_000}, Masses: []int64{60_000_000, 100_000_000},
		Climb: [][]int64{{4000, 3000}, {1000, 500}}, ClimbFlow: [][]int64{{6000, 7000}, {4000, 4500}}, Cruise: [][]int64{{flow, flow}, {flow, flow}},
		Descent: []int64{1500, 2500}, Idle: []int64{900, 600}, MaxSpeed: []int64{340, 300}, MinSpeed: []int64{1, 1}, Ref: 300, Extra: 3, Ceiling: 4_100_000}
}

// one is the chapter's example.
func one() api.Problem {
	return api.Problem{Dists: []int64{60_000}, Levels: []int64{0, 100}, Speeds: []int64{100, 200}, Tail: [][]int64{{0, 0}}, Masses: []int64{80_000_000}, Perf: tables(1000)}
}

// several has three legs, three levels and two speeds, with winds that make changes worth while.
func several() api.Problem {
	p := api.Problem{Dists: []int64{60_000, 5000, 80_000}, Levels: []int64{0, 2_000_000, 4_000_000}, Speeds: []int64{100, 330}, Tail: [][]int64{{-50, 20, -100}, {0, -99, 7}, {-20, -30, 90}}, Masses: []int64{90_000_000, 80_000_000, 70_000_000}, Perf: tables(1000), Index: 500, ClimbCost: 7000, First: 0, Last: 2}
	p.Perf.Cruise = [][]int64{{3000, 3600}, {2000, 2500}}
	return p
}

// P40.1
func TestCheck(t *testing.T) {
	for i, c := range []struct {
		change func(p *api.Problem)
		want   api.Errno
	}{
		{func(p *api.Problem) {}, api.OK},
		{func(p *api.Problem) { p.Dists = nil; p.First = 9 }, api.ErrLimit}, {func(p *api.Problem) { p.Dists = make([]int64, 25) }, api.ErrLimit}, {func(p *api.Problem) { p.Levels = nil }, api.ErrLimit}, {func(p *api.Problem) { p.Levels = make([]int64, 9) }, api.ErrLimit}, {func(p *api.Problem) { p.Speeds = nil }, api.ErrLimit}, {func(p *api.Problem) { p.Speeds = make([]int64, 7) }, api.ErrLimit},
		{func(p *api.Problem) { p.Tail = p.Tail[1:]; p.Levels[1] = 0 }, api.ErrArg}, {func(p *api.Problem) { p.Tail[2] = p.Tail[2][1:] }, api.ErrArg}, {func(p *api.Problem) { p.Tail[0] = append(p.Tail[0], 0) }, api.ErrArg}, {func(p *api.Problem) { p.Masses = nil }, api.ErrArg}, {func(p *api.Problem) { p.First = -1 }, api.ErrArg}, {func(p *api.Problem) { p.First = 3 }, api.ErrArg}, {func(p *api.Problem) { p.Last = -1 }, api.ErrArg}, {func(p *api.Problem) { p.Last = 3 }, api.ErrArg},
		{func(p *api.Problem) { p.Levels[1] = 0; p.Index = -1 }, api.ErrOrder}, {func(p *api.Problem) { p.Speeds[1] = 100 }, api.ErrOrder}, {func(p *api.Problem) { p.Speeds[1] = 99 }, api.ErrOrder},
		{func(p *api.Problem) { p.Dists[0] = -1; p.Perf.Name = "" }, api.ErrRange}, {func(p *api.Problem) { p.Dists[2] = api.MaxDist + 1 }, api.ErrRange}, {func(p *api.Problem) { p.Levels[0] = api.MinAlt - 1 }, api.ErrRange}, {func(p *api.Problem) { p.Levels[2] = api.MaxAlt + 1 }, api.ErrRange}, {func(p *api.Problem) { p.Speeds[0] = 0 }, api.ErrRange}, {func(p *api.Problem) { p.Speeds[1] = 1001 }, api.ErrRange}, {func(p *api.Problem) { p.Tail[1][1] = -401 }, api.ErrRange}, {func(p *api.Problem) { p.Tail[1][1] = 401 }, api.ErrRange}, {func(p *api.Problem) { p.Masses[0] = 0 }, api.ErrRange}, {func(p *api.Problem) { p.Masses[0] = api.MaxMass + 1 }, api.ErrRange}, {func(p *api.Problem) { p.Index = -1 }, api.ErrRange}, {func(p *api.Problem) { p.Index = 1001 }, api.ErrRange}, {func(p *api.Problem) { p.ClimbCost = -1 }, api.ErrRange}, {func(p *api.Problem) { p.ClimbCost = 1<<30 + 1 }, api.ErrRange}, {func(p *api.Problem) { p.ClimbCost = 1 << 30; p.Index = 1000; p.Tail[0][0] = -400; p.Tail[0][1] = 400 }, api.OK},
		{func(p *api.Problem) { p.Perf.Name = "" }, api.ErrName},
	} {
		p := several()
		c.change(&p)
		if e := Check(p); e != c.want {
			t.Errorf("case %d: %v, want %v", i, e, c.want)
		}
		if c.want == api.OK {
			continue
		}
		n, e1 := Leg(p, -1, ch(-1, -1))
		cost, e2 := Cost(p, nil)
		g, from, to, e3 := Graph(p)
		r, e4 := Route(p, []int{-1})
		l, sum, pot, e5 := Solve(p)
		if n != 0 || cost != 0 || !reflect.DeepEqual(g, api.Graph{}) || from != 0 || to != 0 || len(r)+len(l)+len(pot) > 0 || sum != 0 {
			t.Errorf("case %d: results beside an error", i)
		}
		for k, e := range []api.Errno{e1, e2, e3, e4, e5} {
			if e != c.want {
				t.Errorf("case %d, function %d: %v", i, k, e)
			}
		}
	}
}

// P40.2
func TestLeg(t *testing.T) {
	p := several()
	for k := range 3 {
		for i := range 3 {
			for v := range 2 {
				ground := p.Speeds[v] + p.Tail[k][i]
				got, e := Leg(p, k, ch(i, v))
				if ground < 1 {
					if got != 0 || e != api.ErrGeom {
						t.Errorf("leg %d, %d, %d: %d, %v", k, i, v, got, e)
					}
					continue
				}
				flow, _ := performance.CruiseFlow(p.Perf, p.Levels[i], p.Masses[k], p.Speeds[v])
				if want := (p.Dists[k] + ground - 1) / ground * (flow + 500); got != want || e != api.OK {
					t.Errorf("leg %d, %d, %d: %d, %v, want %d", k, i, v, got, e, want)
				}
			}
		}
	}
	if _, e := Leg(p, 0, ch(2, 0)); e != api.ErrGeom {
		t.Errorf("a ground speed of 0: %v", e)
	}
	if _, e := Leg(p, 1, ch(1, 0)); e != api.OK {
		t.Errorf("a ground speed of 1: %v", e)
	}
	for _, c := range []struct {
		leg int
		c   api.Choice
	}{{-1, ch(0, 0)}, {3, ch(0, 0)}, {0, ch(-1, 0)}, {0, ch(3, 0)}, {0, ch(2, -1)}, {0, ch(2, 2)}, {math.MaxInt, ch(math.MinInt, 0)}} {
		if n, e := Leg(p, c.leg, c.c); n != 0 || e != api.ErrArg {
			t.Errorf("%v: %d, %v", c, n, e)
		}
	}
}

// P40.3
func TestCost(t *testing.T) {
	p := several()
	sum := func(l ...api.Choice) int64 {
		s := int64(0)
		for k, c := range l {
			n, _ := Leg(p, k, c)
			s += n
		}
		return s
	}
	for i, c := range []struct {
		l    []api.Choice
		want int64
		e    api.Errno
	}{
		{[]api.Choice{ch(1, 1), ch(2, 0), ch(2, 1)}, sum(ch(1, 1), ch(2, 0), ch(2, 1)) + 14_000, api.OK},
		{[]api.Choice{ch(0, 1), ch(0, 0), ch(1, 1)}, sum(ch(0, 1), ch(0, 0), ch(1, 1)) + 14_000, api.OK},
		{[]api.Choice{ch(1, 1), ch(0, 0), ch(1, 0)}, sum(ch(1, 1), ch(0, 0), ch(1, 0)) + 28_000, api.OK},
		{nil, 0, api.ErrArg}, {make([]api.Choice, 4), 0, api.ErrArg},
		{[]api.Choice{ch(3, 0), ch(0, 0), ch(1, 1)}, 0, api.ErrArg}, {[]api.Choice{ch(0, 2), ch(0, 0), ch(1, 1)}, 0, api.ErrArg}, {[]api.Choice{ch(0, 0), ch(0, 0), ch(-1, 1)}, 0, api.ErrArg},
		{[]api.Choice{ch(2, 1), ch(9, 0), ch(1, 1)}, 0, api.ErrOrder}, {[]api.Choice{ch(0, 1), ch(2, 1), ch(1, 1)}, 0, api.ErrOrder}, {[]api.Choice{ch(0, 1), ch(0, 1), ch(0, 1)}, 0, api.ErrOrder}, {[]api.Choice{ch(0, 1), ch(1, 1), ch(2, 9)}, 0, api.ErrArg},
	} {
		if n, e := Cost(p, c.l); n != c.want || e != c.e {
			t.Errorf("case %d: %d, %v, want %d", i, n, e, c.want)
		}
	}
	p.First = 2
	if n, e := Cost(p, []api.Choice{ch(2, 0), ch(0, 9), ch(0, 0)}); n != 0 || e != api.ErrGeom {
		t.Errorf("a leg that cannot be flown: %d, %v", n, e)
	}
}

// graphOf builds the graph by the chapter's words.
func graphOf(p api.Problem) api.Graph {
	m, n := len(p.Dists), len(p.Levels)
	g := api.Graph{N: 2 + m*n}
	abs := func(x int) int { return max(x, -x) }
	for k := range m {
		for i := range n {
			from := 1 + (k-1)*n + i
			if k == 0 {
				if i != p.First {
					continue
				}
				from = 0
			}
			for j := range n {
				for v := range p.Speeds {
					cost, e := Leg(p, k, ch(j, v))
					if abs(i-j) <= 1 && e == api.OK {
						g.Edges = append(g.Edges, api.Edge{From: from, To: 1 + k*n + j, Cost: cost + p.ClimbCost*int64(abs(i-j))})
					}
				}
			}
		}
	}
	for i := range n {
		if abs(i-p.Last) <= 1 {
			g.Edges = append(g.Edges, api.Edge{From: 1 + (m-1)*n + i, To: 1 + m*n, Cost: p.ClimbCost * int64(abs(i-p.Last))})
		}
	}
	return g
}

// all calls f with all lists of choices.
func all(p api.Problem, f func(l []api.Choice)) {
	var walk func(l []api.Choice)
	walk = func(l []api.Choice) {
		if len(l) == len(p.Dists) {
			f(l)
			return
		}
		for i := range p.Levels {
			for v := range p.Speeds {
				walk(append(slices.Clone(l), ch(i, v)))
			}
		}
	}
	walk(nil)
}

// P40.4, P40.5, P40.6
func TestGraph(t *testing.T) {
	for first := range 3 {
		for last := range 3 {
			for _, climb := range []int64{0, 7000, 1 << 30} {
				p := several()
				p.First, p.Last, p.ClimbCost = first, last, climb
				g, from, to, e := Graph(p)
				if !reflect.DeepEqual(g, graphOf(p)) || from != 0 || to != 10 || e != api.OK || certificate.Check(g) != api.OK {
					t.Fatalf("Graph: %v, %d, %d, %v", g, from, to, e)
				}
				l, cost, pot, e := Solve(p)
				route, wantPot, _ := certificate.Solve(g, from, to)
				choices, f := Route(p, route)
				if e != api.OK || f != api.OK || !slices.Equal(l, choices) || !slices.Equal(pot, wantPot) || len(l) != 3 {
					t.Fatalf("Solve: %v, %d, %v, %v; Route: %v, %v", l, cost, pot, e, choices, f)
				}
				if n, e := Cost(p, l); n != cost || e != api.OK {
					t.Fatalf("the cost of %v is %d, %v, not %d", l, n, e, cost)
				}
				if e := certificate.Accept(g, from, to, pot, route); e != api.OK {
					t.Fatalf("Accept: %v", e)
				}
				all(p, func(l []api.Choice) {
					if n, e := Cost(p, l); e == api.OK && n < cost {
						t.Fatalf("%v costs %d, less than %d", l, n, cost)
					}
				})
			}
		}
	}
}

// P40.5, P40.6: errors, and the chapter's example.
func TestRoute(t *testing.T) {
	p := one()
	l, cost, pot, e := Solve(p)
	if !slices.Equal(l, []api.Choice{ch(0, 1)}) || cost != 300_000 || len(pot) != 4 || e != api.OK {
		t.Errorf("the chapter's example: %v, %d, %v, %v", l, cost, pot, e)
	}
	if n, _ := Leg(p, 0, ch(0, 0)); n != 600_000 {
		t.Errorf("at 100 knots: %d", n)
	}
	for i, c := range []struct {
		route []int
		want  api.Errno
	}{{[]int{1, 4}, api.OK}, {nil, api.ErrOrder}, {[]int{1}, api.ErrOrder}, {[]int{1, 5}, api.ErrOrder}, {[]int{9}, api.ErrNone}, {[]int{-1}, api.ErrNone}, {make([]int, 8193), api.ErrLimit}} {
		if l, e := Route(p, c.route); e != c.want || (len(l) == 1) != (e == api.OK) {
			t.Errorf("case %d: %v, %v", i, l, e)
		}
	}
	p.Tail[0] = []int64{-200, -200}
	if l, cost, pot, e := Solve(p); len(l)+len(pot) > 0 || cost != 0 || e != api.ErrNone {
		t.Errorf("no leg can be flown: %v, %d, %v", l, cost, e)
	}
	far := several()
	far.Dists, far.Tail, far.Masses = far.Dists[:1], far.Tail[:1], far.Masses[:1]
	if l, _, _, e := Solve(far); e != api.OK || l[0].Level != 1 {
		t.Errorf("from level 0 to 2 in one leg: %v, %v", l, e)
	}
	far.Levels, far.Tail[0], far.Last = []int64{0, 1, 2, 3}, []int64{0, 0, 0, 0}, 3
	if l, _, _, e := Solve(far); len(l) > 0 || e != api.ErrNone {
		t.Errorf("from level 0 to 3 in one leg: %v, %v", l, e)
	}
}
