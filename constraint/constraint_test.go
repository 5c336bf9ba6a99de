package constraint

import (
	"math"
	"slices"
	"testing"

	"flightdeck/api"
)

func w(lo, hi int64) api.Window { return api.Window{Lo: lo, Hi: hi} }

func st(up, down int64) api.Step { return api.Step{Up: up, Down: down} }

func c(i, j int) api.Conflict { return api.Conflict{I: i, J: j} }

// P33.1
func TestCheck(t *testing.T) {
	for i, k := range []struct {
		ws   []api.Window
		st   []api.Step
		want api.Errno
	}{
		{nil, nil, api.OK},
		{nil, []api.Step{{}}, api.ErrArg},
		{make([]api.Window, 64), make([]api.Step, 63), api.OK},
		{make([]api.Window, 65), make([]api.Step, 64), api.ErrLimit},
		{make([]api.Window, 65), nil, api.ErrLimit},
		{make([]api.Window, 2), nil, api.ErrArg},
		{make([]api.Window, 2), make([]api.Step, 2), api.ErrArg},
		{[]api.Window{w(-Bound, Bound)}, nil, api.OK},
		{[]api.Window{w(Bound, -Bound)}, nil, api.OK},
		{[]api.Window{w(-Bound-1, 0)}, []api.Step{{}}, api.ErrArg},
		{[]api.Window{w(-Bound-1, 0)}, nil, api.ErrRange},
		{[]api.Window{w(Bound+1, 0)}, nil, api.ErrRange},
		{[]api.Window{w(0, Bound+1)}, nil, api.ErrRange},
		{[]api.Window{w(0, -Bound-1)}, nil, api.ErrRange},
		{[]api.Window{w(0, 1), w(0, 1)}, []api.Step{st(-1, 0)}, api.ErrRange},
		{[]api.Window{w(0, 1), w(0, 1)}, []api.Step{st(0, -1)}, api.ErrRange},
		{[]api.Window{w(0, 1), w(0, 1)}, []api.Step{st(Bound+1, 0)}, api.ErrRange},
		{[]api.Window{w(0, 1), w(0, 1)}, []api.Step{st(0, math.MaxInt64)}, api.ErrRange},
		{[]api.Window{w(0, 1), w(0, 1)}, []api.Step{st(Bound, Bound)}, api.OK},
	} {
		if e := Check(k.ws, k.st); e != k.want {
			t.Errorf("case %d: %v, want %v", i, e, k.want)
		}
		if k.want == api.OK {
			continue
		}
		x, found, e := Conflicts(k.ws, k.st)
		all, f := All(k.ws, k.st)
		n, g := Excess(k.ws, k.st, c(-1, -1))
		tight, h := Tighten(k.ws, k.st)
		if x != (api.Conflict{}) || found || e != k.want || len(all) > 0 || f != k.want || n != 0 || g != k.want || len(tight) > 0 || h != k.want || Meets(k.ws, k.st, make([]int64, len(k.ws))) {
			t.Errorf("case %d: %v, %v, %v, %v", i, e, f, g, h)
		}
	}
}

// P33.2
func TestMeets(t *testing.T) {
	ws, steps := []api.Window{w(0, 10), w(-5, 20)}, []api.Step{st(5, 3)}
	for i, k := range []struct {
		v    []int64
		want bool
	}{
		{[]int64{0, 5}, true}, {[]int64{0, 6}, false}, {[]int64{10, 7}, true}, {[]int64{10, 6}, false}, {[]int64{0, -3}, true}, {[]int64{0, -4}, false}, {[]int64{-1, 0}, false}, {[]int64{11, 11}, false}, {[]int64{0, 21}, false}, {[]int64{0}, false}, {[]int64{0, 0, 0}, false}, {[]int64{math.MinInt64, math.MaxInt64}, false}, {nil, false},
	} {
		if Meets(ws, steps, k.v) != k.want {
			t.Errorf("case %d", i)
		}
	}
	if !Meets(nil, nil, nil) || Meets([]api.Window{w(1, 0)}, nil, []int64{0}) {
		t.Errorf("no windows, or an empty one")
	}
}

// solutions returns, for each node, the values that occur in solutions, by trying all of them.
func solutions(ws []api.Window, steps []api.Step) []map[int64]bool {
	seen := make([]map[int64]bool, len(ws))
	for i := range seen {
		seen[i] = map[int64]bool{}
	}
	var v []int64
	var walk func() bool
	walk = func() bool {
		i := len(v)
		if i == len(ws) {
			for k, x := range v {
				seen[k][x] = true
			}
			return true
		}
		any := false
		for x := ws[i].Lo; x <= ws[i].Hi; x++ {
			if i > 0 && (x-v[i-1] > steps[i-1].Up || v[i-1]-x > steps[i-1].Down) {
				continue
			}
			v = append(v, x)
			any = walk() || any
			v = v[:i]
		}
		return any
	}
	walk()
	return seen
}

// P33.3 to P33.6: small chains at random, against all values.
func TestRandom(t *testing.T) {
	x := uint64(33)
	next := func(n int) int64 {
		x = x*6364136223846793005 + 1442695040888963407
		return int64(x>>33) % int64(n)
	}
	solvable, conflicting := 0, 0
	for range 4000 {
		n := int(next(5))
		var ws []api.Window
		var steps []api.Step
		for i := range n {
			lo := next(9) - 2
			ws = append(ws, w(lo, lo+next(6)-next(2)*next(3)))
			if i > 0 {
				steps = append(steps, st(next(4), next(4)))
			}
		}
		seen := solutions(ws, steps)
		keep := slices.Clone(ws)
		all, e := All(ws, steps)
		first, found, f := Conflicts(ws, steps)
		tight, g := Tighten(ws, steps)
		if e != api.OK || f != api.OK || !slices.Equal(ws, keep) {
			t.Fatalf("%v, %v: %v, %v", ws, steps, e, f)
		}
		possible := n == 0 || len(seen[0]) > 0
		if possible != (len(all) == 0) || found == possible {
			t.Fatalf("%v, %v: solvable %v, conflicts %v", ws, steps, possible, all)
		}
		if !possible {
			conflicting++
			if first != all[0] || g != api.ErrConflict || len(tight) > 0 {
				t.Fatalf("%v, %v: %v, %v", ws, steps, first, g)
			}
			checkConflicts(t, ws, steps, all)
			continue
		}
		solvable++
		for i, k := range tight {
			for v := k.Lo - 3; v <= k.Hi+3; v++ {
				if seen[i][v] != (k.Lo <= v && v <= k.Hi) {
					t.Fatalf("%v, %v: tight %v, node %d, value %d", ws, steps, tight, i, v)
				}
			}
		}
		if g != api.OK || len(tight) != n {
			t.Fatalf("%v, %v: %v", ws, steps, g)
		}
	}
	if solvable < 500 || conflicting < 500 {
		t.Errorf("%d solvable, %d conflicting", solvable, conflicting)
	}
}

// checkConflicts compares the conflicts with those that the definition names, and with their excess.
func checkConflicts(t *testing.T, ws []api.Window, steps []api.Step, all []api.Conflict) {
	t.Helper()
	var want []api.Conflict
	for i := range ws {
		if ws[i].Lo > ws[i].Hi {
			want = append(want, c(i, i))
		}
	}
	for i := range ws {
		for j := i + 1; j < len(ws); j++ {
			pair := []api.Window{ws[i], ws[j]}
			between := st(0, 0)
			for _, s := range steps[i:j] {
				between.Up += s.Up
				between.Down += s.Down
			}
			if ws[i].Lo <= ws[i].Hi && ws[j].Lo <= ws[j].Hi && len(solutions(pair, []api.Step{between})[0]) == 0 {
				want = append(want, c(i, j))
			}
		}
	}
	if !slices.Equal(all, want) {
		t.Fatalf("%v, %v: conflicts %v, want %v", ws, steps, all, want)
	}
	for i := range ws {
		for j := i; j < len(ws); j++ {
			n, e := Excess(ws, steps, c(i, j))
			if !slices.Contains(want, c(i, j)) {
				if n != 0 || e != api.ErrNone {
					t.Fatalf("%v, %v: Excess of {%d, %d} = %d, %v", ws, steps, i, j, n, e)
				}
				continue
			}
			// Widening a window by the excess, and not by less, takes the conflict away.
			for _, k := range []int64{n - 1, n} {
				wider := slices.Clone(ws)
				wider[j] = w(ws[j].Lo-k, ws[j].Hi+k)
				if i == j {
					wider[j] = w(ws[j].Lo, ws[j].Hi+k)
				}
				l, _ := All(wider, steps)
				if slices.Contains(l, c(i, j)) != (k < n) || n < 1 || e != api.OK {
					t.Fatalf("%v, %v: Excess of {%d, %d} = %d, %v", ws, steps, i, j, n, e)
				}
			}
		}
	}
}

// P33.4
func TestExcessErrors(t *testing.T) {
	ws, steps := []api.Window{w(5, 4), w(0, 1)}, []api.Step{st(0, 0)}
	if all, _ := All(ws, steps); !slices.Equal(all, []api.Conflict{c(0, 0)}) {
		t.Errorf("an empty window conflicts with no other one: %v", all)
	}
	for k, want := range map[api.Conflict]api.Errno{c(0, 0): api.OK, c(0, 1): api.ErrNone, c(1, 1): api.ErrNone, c(1, 0): api.ErrArg, c(-1, 0): api.ErrArg, c(0, 2): api.ErrArg, c(2, 2): api.ErrArg, c(math.MinInt, math.MaxInt): api.ErrArg} {
		if n, e := Excess(ws, steps, k); e != want || (n == 1) != (want == api.OK) {
			t.Errorf("Excess of %v = %d, %v", k, n, e)
		}
	}
	far := []api.Window{w(-Bound, -Bound), w(Bound, Bound)}
	if n, e := Excess(far, []api.Step{st(0, 0)}, c(0, 1)); n != 2*Bound || e != api.OK {
		t.Errorf("the greatest excess: %d, %v", n, e)
	}
	far[0], far[1] = far[1], far[0]
	if n, e := Excess(far, []api.Step{st(Bound, 5)}, c(0, 1)); n != 2*Bound-5 || e != api.OK {
		t.Errorf("downwards: %d, %v", n, e)
	}
}

// The examples of the chapter.
func TestExamples(t *testing.T) {
	ws, steps := []api.Window{w(0, 10), w(0, 100), w(50, 60)}, []api.Step{st(15, 5), st(20, 5)}
	all, _ := All(ws, steps)
	n, e := Excess(ws, steps, c(0, 2))
	if !slices.Equal(all, []api.Conflict{c(0, 2)}) || n != 5 || e != api.OK {
		t.Errorf("%v, %d, %v", all, n, e)
	}
	steps[0] = st(25, 5)
	tight, e := Tighten(ws, steps)
	if !slices.Equal(tight, []api.Window{w(5, 10), w(30, 35), w(50, 55)}) || e != api.OK {
		t.Errorf("%v, %v", tight, e)
	}
	long, up := make([]api.Window, 64), make([]api.Step, 63)
	for i := range long {
		long[i] = w(-Bound, Bound)
	}
	for i := range up {
		up[i] = st(Bound, Bound)
	}
	if tight, e := Tighten(long, up); !slices.Equal(tight, long) || e != api.OK {
		t.Errorf("a long chain: %v", e)
	}
}
