package chartcheck

import (
	"fmt"
	"reflect"
	"slices"
	"testing"

	"flightdeck/api"
	"flightdeck/chart"
)

const lamp = `CHART LAMP OFF
CONDITION KEY
STATE OFF - -
STATE ON - LOW HISTORY
STATE LOW ON -
ENTRY DIM
STATE HIGH ON -
TRANSITION OFF ON
WHEN KEY
TRANSITION OFF OFF
WHEN !KEY
TRANSITION ON OFF
WHEN KEY
TRANSITION LOW HIGH
WHEN !KEY
TRANSITION HIGH LOW
WHEN !KEY
`

func parsed(t *testing.T, src string) api.Chart {
	t.Helper()
	c, diags := chart.Parse(src)
	if len(diags) > 0 {
		t.Fatal(diags)
	}
	return c
}

func config(leaf int, memory ...int) api.Config { return api.Config{Leaf: leaf, Memory: memory} }

func finding(kind byte, state int, v uint16, first, second int) api.Finding {
	return api.Finding{Kind: kind, State: state, Valuation: v, First: first, Second: second}
}

// The examples of the chapter.
func TestExamples(t *testing.T) {
	c := parsed(t, lamp)
	l, e := Reachable(c)
	want := []api.Config{config(0, -1, -1, -1, -1), config(2, -1, -1, -1, -1), config(3, -1, -1, -1, -1), config(0, -1, 2, -1, -1), config(0, -1, 3, -1, -1)}
	if !reflect.DeepEqual(l, want) || e != api.OK {
		t.Errorf("Reachable: %v, %v", l, e)
	}
	l[0].Memory[1] = 77
	if again, _ := Reachable(c); !reflect.DeepEqual(again, want) {
		t.Errorf("Reachable again: %v", again)
	}
	if f, e := Findings(c); len(f) > 0 || e != api.OK {
		t.Errorf("Findings: %v, %v", f, e)
	}
	if w, e := Witness(c, 3); !slices.Equal(w, []uint16{1, 0}) || e != api.OK {
		t.Errorf("Witness: %v, %v", w, e)
	}
	if w, e := Witness(c, 0); len(w) > 0 || e != api.OK {
		t.Errorf("Witness of the start: %v, %v", w, e)
	}
	short := parsed(t, lamp)
	short.Transitions = slices.Delete(short.Transitions, 1, 2)
	if f, e := Findings(short); !slices.Equal(f, []api.Finding{finding(Incomplete, 0, 0, -1, -1)}) || e != api.OK {
		t.Errorf("Findings: %v, %v", f, e)
	}
	if f, ok, e := Complete(short); ok || f != finding(Incomplete, 0, 0, -1, -1) || e != api.OK {
		t.Errorf("Complete: %v, %v, %v", f, ok, e)
	}
	if f, ok, e := Exclusive(short); !ok || f != (api.Finding{}) || e != api.OK {
		t.Errorf("Exclusive: %v, %v, %v", f, ok, e)
	}
	more := parsed(t, lamp)
	more.Transitions = append(more.Transitions, api.Transition{From: 2, To: 2})
	if f, e := Findings(more); !slices.Equal(f, []api.Finding{finding(Ambiguous, 2, 0, 3, 5), finding(Unreachable, 3, 0, -1, -1), finding(Dead, -1, 0, 4, -1)}) || e != api.OK {
		t.Errorf("Findings: %v, %v", f, e)
	}
	if f, ok, e := Exclusive(more); ok || f != finding(Ambiguous, 2, 0, 3, 5) || e != api.OK {
		t.Errorf("Exclusive: %v, %v, %v", f, ok, e)
	}
	if f, ok, e := Complete(more); !ok || f != (api.Finding{}) || e != api.OK {
		t.Errorf("Complete: %v, %v, %v", f, ok, e)
	}
	if w, e := Witness(more, 3); len(w) > 0 || e != api.ErrNone {
		t.Errorf("Witness of what is not reachable: %v, %v", w, e)
	}
	for _, broken := range []api.Chart{short, more} {
		if f, e := Flatten(broken); e != api.ErrConflict || !reflect.DeepEqual(f, api.Chart{}) {
			t.Errorf("Flatten: %v, %v", f, e)
		}
	}
	for _, leaf := range []int{1, 4, -1} {
		if w, e := Witness(c, leaf); len(w) > 0 || e != api.ErrRange {
			t.Errorf("Witness of %d: %v, %v", leaf, w, e)
		}
	}
}

// P48.6, P48.7, P48.8
func TestFlatten(t *testing.T) {
	c := parsed(t, lamp)
	flat, e := Flatten(c)
	if e != api.OK {
		t.Fatal(e)
	}
	const want = `CHART LAMP S0
CONDITION KEY
STATE S0 - -
STATE S1 - -
STATE S2 - -
STATE S3 - -
STATE S4 - -
TRANSITION S0 S1
WHEN KEY
DO DIM
TRANSITION S0 S0
WHEN !KEY
TRANSITION S1 S3
WHEN KEY
TRANSITION S1 S2
WHEN !KEY
TRANSITION S2 S4
WHEN KEY
TRANSITION S2 S1
WHEN !KEY
DO DIM
TRANSITION S3 S1
WHEN KEY
DO DIM
TRANSITION S3 S3
WHEN !KEY
TRANSITION S4 S2
WHEN KEY
TRANSITION S4 S4
WHEN !KEY
`
	if s, _ := chart.Text(flat); s != want {
		t.Errorf("%s", s)
	}
	if w, ok, e := Equal(c, flat); len(w) > 0 || !ok || e != api.OK {
		t.Errorf("Equal: %v, %v, %v", w, ok, e)
	}
	other := flat
	other.Transitions = slices.Clone(flat.Transitions)
	other.Transitions[8].Actions = []string{"DIM"} // S4 to S2: after 1, 0, 1
	if w, ok, e := Equal(c, other); !slices.Equal(w, []uint16{1, 0, 1, 1}) || ok || e != api.OK {
		t.Errorf("Equal: %v, %v, %v", w, ok, e)
	}
	if w, ok, e := Equal(other, c); !slices.Equal(w, []uint16{1, 0, 1, 1}) || ok || e != api.OK {
		t.Errorf("Equal, the other way: %v, %v, %v", w, ok, e)
	}
	never := parsed(t, lamp)
	never.Never = [][]api.Literal{{{Cond: 0}}}
	if w, ok, e := Equal(c, never); !slices.Equal(w, []uint16{1}) || ok || e != api.OK {
		t.Errorf("another error: %v, %v, %v", w, ok, e)
	}
	start := parsed(t, lamp)
	start.Start = 2 // the actions of Start do not count, but what follows does
	if w, ok, e := Equal(c, start); !slices.Equal(w, []uint16{1}) || ok || e != api.OK {
		t.Errorf("another start: %v, %v, %v", w, ok, e)
	}
	named := parsed(t, lamp)
	named.Conds[0] = "LOCK"
	if w, ok, e := Equal(c, named); len(w) > 0 || ok || e != api.ErrArg {
		t.Errorf("other conditions: %v, %v, %v", w, ok, e)
	}
	// Never and When are copies.
	never.Transitions = never.Transitions[1:2]
	never.Never = [][]api.Literal{{{Cond: 0}}}
	f, e := Flatten(never)
	if e != api.OK || len(f.Never) != 1 || len(f.Transitions) != 1 {
		t.Fatalf("%v, %v", f, e)
	}
	f.Never[0][0].Cond, f.Transitions[0].When[0].Cond, f.Conds[0] = 9, 9, "X"
	if never.Never[0][0].Cond != 0 || never.Transitions[0].When[0].Cond != 0 || never.Conds[0] != "KEY" {
		t.Errorf("Flatten shares memory")
	}
}

// counter has n leaves in a ring, and history in groups of them, so that it has many configurations.
func counter(groups, size int) api.Chart {
	c := api.Chart{Name: "MANY", Conds: []string{"A", "B"}}
	for g := range groups {
		top := len(c.States)
		c.States = append(c.States, api.ChartState{Name: fmt.Sprintf("G%d", g), Parent: -1, Initial: top + 1, History: true})
		for i := range size {
			c.States = append(c.States, api.ChartState{Name: fmt.Sprintf("G%dS%d", g, i), Parent: top, Initial: -1})
			c.Transitions = append(c.Transitions, api.Transition{From: top + 1 + i, To: top + 1 + (i+1)%size, When: []api.Literal{{Cond: 0}}})
		}
		c.Transitions = append(c.Transitions, api.Transition{From: top, To: (g + 1) % groups * (size + 1), When: []api.Literal{{Cond: 0, Neg: true}}})
	}
	return c
}

// P48.1, P48.6: limits.
func TestLimits(t *testing.T) {
	many := counter(4, 5) // 4 * 5^4 configurations
	if e := chart.Check(many); e != api.OK {
		t.Fatal(e)
	}
	l, e1 := Reachable(many)
	w, e2 := Witness(many, 1)
	f, e3 := Findings(many)
	_, ok, e4 := Complete(many)
	_, ok2, e5 := Exclusive(many)
	flat, e6 := Flatten(many)
	ways, ok3, e7 := Equal(many, many)
	for i, e := range []api.Errno{e1, e2, e3, e4, e5, e6, e7} {
		if e != api.ErrLimit {
			t.Errorf("function %d: %v", i, e)
		}
	}
	if len(l)+len(w)+len(f)+len(ways) > 0 || ok || ok2 || ok3 || !reflect.DeepEqual(flat, api.Chart{}) {
		t.Errorf("results beside ErrLimit")
	}
	if _, e := Witness(many, 0); e != api.ErrRange {
		t.Errorf("the leaf goes first: %v", e)
	}
	some := counter(2, 5) // more than 40 configurations, but not more than 400
	if l, e := Reachable(some); len(l) <= api.MaxStates || e != api.OK {
		t.Errorf("%d configurations, %v", len(l), e)
	}
	if _, e := Flatten(some); e != api.ErrLimit {
		t.Errorf("too many states: %v", e)
	}
	long := parsed(t, lamp)
	long.States[2].Entry = slices.Repeat([]string{"A"}, 5)
	long.Transitions[4].Actions = slices.Repeat([]string{"A"}, 4)
	if _, e := Flatten(long); e != api.ErrLimit {
		t.Errorf("too many actions: %v", e)
	}
	long.Transitions[4].Actions = long.Transitions[4].Actions[:3]
	if _, e := Flatten(long); e != api.OK {
		t.Errorf("as many actions as there may be: %v", e)
	}
	// A difference that is found before there are too many pairs is told.
	other := counter(4, 5)
	other.Transitions[0].Actions = []string{"X"}
	if w, ok, e := Equal(many, other); !slices.Equal(w, []uint16{1}) || ok || e != api.OK {
		t.Errorf("Equal: %v, %v, %v", w, ok, e)
	}
	var bad api.Chart
	want := chart.Check(bad)
	_, e1 = Reachable(bad)
	_, e2 = Witness(bad, -1)
	_, e3 = Findings(bad)
	_, e4 = Flatten(bad)
	_, _, e5 = Equal(bad, many)
	_, _, e6 = Equal(many, bad)
	_, _, e7 = Complete(bad)
	for i, e := range []api.Errno{e1, e2, e3, e4, e5, e6, e7} {
		if e != want || want == api.OK {
			t.Errorf("function %d of no chart: %v", i, e)
		}
	}
}

// random makes a small valid chart.
func random(next func(n int) int) api.Chart {
	c := api.Chart{Name: "R", Conds: []string{"A", "B", "C"}[:1+next(3)]}
	literals := func() (l []api.Literal) {
		for i := range c.Conds {
			if next(3) > 0 {
				l = append(l, api.Literal{Cond: i, Neg: next(2) == 0})
			}
		}
		return l
	}
	if l := literals(); next(3) == 0 && len(l) > 0 {
		c.Never = append(c.Never, l)
	}
	n := 2 + next(5)
	for i := range n {
		c.States = append(c.States, api.ChartState{Name: fmt.Sprintf("N%d", i), Parent: next(i+1) - 1, Initial: -1})
		if next(3) == 0 {
			c.States[i].Entry = []string{fmt.Sprintf("E%d", i)}
		}
		if next(3) == 0 {
			c.States[i].Exit = []string{fmt.Sprintf("X%d", i)}
		}
	}
	for i := range c.States {
		for k, s := range c.States {
			if s.Parent == i && (c.States[i].Initial < 0 || next(2) == 0) {
				c.States[i].Initial = k
				c.States[i].History = next(2) == 0
			}
		}
	}
	c.Start = next(n)
	for range 2 + next(9) {
		c.Transitions = append(c.Transitions, api.Transition{From: next(n), To: next(n), When: literals()})
	}
	return c
}

// P48.1 to P48.8: charts at random, against chart.Step alone.
func TestRandom(t *testing.T) {
	x := uint64(48)
	next := func(n int) int {
		x = x*6364136223846793005 + 1442695040888963407
		return int(x>>33) % n
	}
	good := 0
	for k := range 3000 {
		c := random(next)
		if k%2 == 0 { // complete and exclusive: each leaf has one transition for A and one for !A
			c.Transitions = nil
			for _, leaf := range chart.Leaves(c) {
				c.Transitions = append(c.Transitions, api.Transition{From: leaf, To: next(len(c.States)), When: []api.Literal{{Cond: 0}}}, api.Transition{From: leaf, To: next(len(c.States)), When: []api.Literal{{Cond: 0, Neg: true}}})
			}
		}
		if e := chart.Check(c); e != api.OK {
			t.Fatalf("%v: %v", c, e)
		}
		checkReachable(t, c)
		if flat, e := Flatten(c); e == api.OK {
			good++
			if w, ok, e := Equal(c, flat); !ok || e != api.OK {
				t.Fatalf("%v and %v: %v, %v", c, flat, w, e)
			}
			checkRuns(t, c, next)
		}
		d := random(next)
		d.Conds = c.Conds
		if chart.Check(d) == api.OK {
			checkDifferent(t, c, d)
		}
	}
	if good < 300 {
		t.Errorf("only %d are complete and exclusive", good)
	}
}

// checkReachable compares the configurations, witnesses and findings with those of a plain search.
func checkReachable(t *testing.T, c api.Chart) {
	t.Helper()
	start, _, _ := chart.Start(c)
	found, ways := []api.Config{start}, [][]uint16{nil}
	var incomplete, ambiguous, rest []api.Finding
	leaves, alive := map[int]bool{}, map[int]bool{}
	for i := 0; i < len(found); i++ {
		fresh := !leaves[found[i].Leaf]
		leaves[found[i].Leaf] = true
		none, several := false, false
		for v := range uint16(1 << len(c.Conds)) {
			enabled := chart.Enabled(c, found[i].Leaf, v)
			g, _, e := chart.Step(c, found[i], v)
			if e == api.ErrArg {
				continue
			}
			for _, k := range enabled {
				alive[k] = true
			}
			if e == api.ErrNone && fresh && !none {
				none = true
				incomplete = append(incomplete, finding(Incomplete, found[i].Leaf, v, -1, -1))
			}
			if e == api.ErrConflict && fresh && !several {
				several = true
				ambiguous = append(ambiguous, finding(Ambiguous, found[i].Leaf, v, enabled[0], enabled[1]))
			}
			if e == api.OK && !slices.ContainsFunc(found, func(h api.Config) bool { return reflect.DeepEqual(g, h) }) {
				found, ways = append(found, g), append(ways, append(slices.Clone(ways[i]), v))
			}
		}
	}
	if l, e := Reachable(c); !reflect.DeepEqual(l, found) || e != api.OK {
		t.Fatalf("%v: %v, %v, want %v", c, l, e, found)
	}
	byState := func(f, g api.Finding) int { return f.State - g.State }
	slices.SortFunc(incomplete, byState)
	slices.SortFunc(ambiguous, byState)
	for _, leaf := range chart.Leaves(c) {
		w, e := Witness(c, leaf)
		i := slices.IndexFunc(found, func(g api.Config) bool { return g.Leaf == leaf })
		if i < 0 {
			rest = append(rest, finding(Unreachable, leaf, 0, -1, -1))
			if len(w) > 0 || e != api.ErrNone {
				t.Fatalf("Witness of %d: %v, %v", leaf, w, e)
			}
		} else if !slices.Equal(w, ways[i]) || e != api.OK {
			t.Fatalf("Witness of %d: %v, %v, want %v", leaf, w, e, ways[i])
		}
	}
	for k := range c.Transitions {
		if !alive[k] {
			rest = append(rest, finding(Dead, -1, 0, k, -1))
		}
	}
	if l, e := Findings(c); !slices.Equal(l, slices.Concat(incomplete, ambiguous, rest)) || e != api.OK {
		t.Fatalf("%v: Findings %v, %v, want %v", c, l, e, slices.Concat(incomplete, ambiguous, rest))
	}
}

// checkRuns makes runs of a complete and exclusive chart.
func checkRuns(t *testing.T, c api.Chart, next func(n int) int) {
	t.Helper()
	var l []uint16
	for range 30 {
		if v := uint16(next(1 << len(c.Conds))); chart.Allowed(c, v) {
			l = append(l, v)
		}
	}
	leaves, _, e := chart.Run(c, l)
	if e != api.OK {
		t.Fatalf("%v: Run %v", c, e)
	}
	configs, _ := Reachable(c)
	for i, leaf := range leaves {
		if !slices.ContainsFunc(configs, func(g api.Config) bool { return g.Leaf == leaf }) || i < len(l) && len(chart.Enabled(c, leaf, l[i])) != 1 {
			t.Fatalf("%v: leaf %d of the run %v", c, leaf, l)
		}
	}
}

// checkDifferent replays the valuations after which two charts differ.
func checkDifferent(t *testing.T, c, d api.Chart) {
	t.Helper()
	w, ok, e := Equal(c, d)
	if e != api.OK || ok != (len(w) == 0) {
		t.Fatalf("%v and %v: %v, %v, %v", c, d, w, ok, e)
	}
	g, _, _ := chart.Start(c)
	h, _, _ := chart.Start(d)
	for i, v := range w {
		var x, y []string
		var e, f api.Errno
		g, x, e = chart.Step(c, g, v)
		h, y, f = chart.Step(d, h, v)
		if same := e == f && slices.Equal(x, y); same == (i == len(w)-1) {
			t.Fatalf("%v and %v do not differ first at the end of %v", c, d, w)
		}
	}
}
