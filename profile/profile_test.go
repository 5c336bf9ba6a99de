package profile

import (
	"math"
	"slices"
	"testing"

	"flightdeck/api"
	"flightdeck/constraint"
)

func w(lo, hi int64) api.Window { return api.Window{Lo: lo, Hi: hi} }

func st(up, down int64) api.Step { return api.Step{Up: up, Down: down} }

// hill is the chapter's example.
func hill() ([]api.Window, []api.Step) {
	return []api.Window{w(0, 0), w(0, 100), w(0, 100), w(10, 10)}, []api.Step{st(50, 9), st(50, 60), st(50, 60)}
}

func same(t *testing.T, name string, v []int64, e api.Errno, want ...int64) {
	t.Helper()
	if !slices.Equal(v, want) || e != api.OK {
		t.Errorf("%s: %v, %v, want %v", name, v, e, want)
	}
}

// P34.1, P34.2, P34.3
func TestProfiles(t *testing.T) {
	ws, steps := hill()
	v, e := Greatest(ws, steps)
	same(t, "Greatest", v, e, 0, 50, 70, 10)
	v, e = Least(ws, steps)
	same(t, "Least", v, e, 0, 0, 0, 10)
	v, e = Below(ws, steps, []int64{9, 60, 45, 99})
	same(t, "Below", v, e, 0, 50, 45, 10)
	for _, c := range []struct {
		level       int64
		v           []int64
		first, last int
	}{{40, []int64{0, 40, 40, 10}, 1, 2}, {90, []int64{0, 50, 70, 10}, -1, -1}, {10, []int64{0, 10, 10, 10}, 1, 3}, {70, []int64{0, 50, 70, 10}, 2, 2}} {
		v, first, last, e := Cruise(ws, steps, c.level)
		same(t, "Cruise", v, e, c.v...)
		if first != c.first || last != c.last {
			t.Errorf("Cruise at %d: %d to %d", c.level, first, last)
		}
	}
	if keep, _ := hill(); !slices.Equal(ws, keep) {
		t.Errorf("the windows are changed")
	}
	v, first, last, e := Cruise(nil, nil, 5)
	same(t, "Cruise of nothing", v, e)
	if first != -1 || last != -1 {
		t.Errorf("Cruise of nothing: %d, %d", first, last)
	}
}

// P34.1, P34.2, P34.3
func TestProfileErrors(t *testing.T) {
	ws, steps := hill()
	conflict := slices.Clone(ws)
	conflict[3] = w(800, 900)
	for i, c := range []struct {
		ws   []api.Window
		st   []api.Step
		wish []int64
		want api.Errno
	}{
		{make([]api.Window, 65), nil, nil, api.ErrLimit},
		{ws, steps[1:], nil, api.ErrArg},
		{[]api.Window{w(0, math.MaxInt64)}, nil, nil, api.ErrRange},
		{ws, steps, []int64{1, 2, math.MaxInt64}, api.ErrArg},
		{ws, steps, []int64{1, 2, constraint.Bound + 1, 3}, api.ErrRange},
		{ws, steps, []int64{1, 2, 3, -constraint.Bound - 1}, api.ErrRange},
		{ws, steps, []int64{-1, 2, 3, 10}, api.ErrConflict},
		{ws, steps, []int64{0, 2, 3, 9}, api.ErrConflict},
		{conflict, steps, []int64{0, 2, 3, 900}, api.ErrConflict},
		{conflict, steps, []int64{0, 2, constraint.Bound + 1, 900}, api.ErrRange},
	} {
		if v, e := Below(c.ws, c.st, c.wish); len(v) > 0 || e != c.want {
			t.Errorf("case %d: %v, %v", i, v, e)
		}
	}
	for i, c := range []struct {
		ws    []api.Window
		st    []api.Step
		level int64
		want  api.Errno
	}{{ws, nil, 5, api.ErrArg}, {ws, steps, constraint.Bound + 1, api.ErrRange}, {ws, steps, 9, api.ErrConflict}, {conflict, steps, 40, api.ErrConflict}} {
		v, first, last, e := Cruise(c.ws, c.st, c.level)
		if len(v) > 0 || first != 0 || last != 0 || e != c.want {
			t.Errorf("Cruise, case %d: %v, %d, %d, %v", i, v, first, last, e)
		}
	}
	for name, f := range map[string]func([]api.Window, []api.Step) ([]int64, api.Errno){"Greatest": Greatest, "Least": Least} {
		if v, e := f(conflict, steps); len(v) > 0 || e != api.ErrConflict {
			t.Errorf("%s of a conflict: %v, %v", name, v, e)
		}
		if v, e := f(ws, nil); len(v) > 0 || e != api.ErrArg {
			t.Errorf("%s without steps: %v, %v", name, v, e)
		}
	}
}

// P34.1, P34.3: no solution is above the greatest or below the least one, and both are solutions.
func TestExtremes(t *testing.T) {
	ws, steps := []api.Window{w(0, 6), w(2, 8), w(-1, 4), w(3, 5)}, []api.Step{st(3, 1), st(2, 3), st(1, 2)}
	most, _ := Greatest(ws, steps)
	least, _ := Least(ws, steps)
	cruise, first, last, _ := Cruise(ws, steps, 5)
	if !constraint.Meets(ws, steps, most) || !constraint.Meets(ws, steps, least) || !constraint.Meets(ws, steps, cruise) {
		t.Errorf("%v, %v, %v", most, least, cruise)
	}
	for n := range int64(10 * 10 * 10 * 10) {
		v := []int64{n%10 - 1, n/10%10 - 1, n/100%10 - 1, n/1000 - 1}
		if !constraint.Meets(ws, steps, v) {
			continue
		}
		for i := range v {
			if v[i] > most[i] || v[i] < least[i] {
				t.Errorf("%v is not between %v and %v", v, least, most)
			}
			if slices.Max(v) <= 5 && v[i] == 5 && (i < first || i > last) {
				t.Errorf("%v reaches the level at %d", v, i)
			}
		}
	}
}

// P34.4, P34.5
func TestBetween(t *testing.T) {
	v, dists := []int64{0, 40, 40, 10}, []int64{100, 200, 7}
	for s, want := range map[int64]int64{0: 0, 1: 0, 2: 0, 3: 1, 50: 20, 99: 39, 100: 40, 101: 40, 300: 40, 301: 35, 302: 31, 303: 27, 306: 14, 307: 10} {
		if x, e := Between(v, dists, s); x != want || e != api.OK {
			t.Errorf("Between at %d: %d, %v", s, x, e)
		}
	}
	double, zero := []int64{5, 7, 9, 3}, []int64{0, 10, 0}
	for s, want := range map[int64]int64{0: 7, 5: 8, 9: 8, 10: 3} {
		if x, e := Between(double, zero, s); x != want || e != api.OK {
			t.Errorf("two nodes at one place, at %d: %d, %v", s, x, e)
		}
	}
	if x, e := Between([]int64{-constraint.Bound, constraint.Bound}, []int64{api.MaxDist}, api.MaxDist/2); x != 0 || e != api.OK {
		t.Errorf("the greatest difference: %d, %v", x, e)
	}
	for i, c := range []struct {
		v, dists []int64
		s        int64
		want     api.Errno
	}{
		{make([]int64, 65), nil, 0, api.ErrLimit}, {nil, nil, 0, api.ErrArg}, {v, dists[1:], 0, api.ErrArg}, {[]int64{5}, []int64{-1}, 0, api.ErrArg},
		{[]int64{constraint.Bound + 1}, nil, 0, api.ErrRange}, {[]int64{-constraint.Bound - 1}, nil, 0, api.ErrRange}, {[]int64{1, 2}, []int64{-1}, 0, api.ErrRange}, {[]int64{1, 2}, []int64{api.MaxDist + 1}, 0, api.ErrRange},
		{v, dists, -1, api.ErrRange}, {v, dists, 308, api.ErrRange}, {v, dists, math.MaxInt64, api.ErrRange}, {[]int64{1}, nil, 1, api.ErrRange},
	} {
		if x, e := Between(c.v, c.dists, c.s); x != 0 || e != c.want {
			t.Errorf("Between, case %d: %d, %v", i, x, e)
		}
		if i < 8 {
			if x, e := Where(c.v, c.dists, 0); x != 0 || e != c.want {
				t.Errorf("Where, case %d: %d, %v", i, x, e)
			}
		}
	}
}

// P34.5
func TestWhere(t *testing.T) {
	chains := []struct{ v, dists []int64 }{
		{[]int64{0, 40, 40, 10}, []int64{100, 200, 7}}, {[]int64{5, 7, 9, 3}, []int64{0, 10, 0}}, {[]int64{9, 0}, []int64{30}}, {[]int64{0, 9}, []int64{30}}, {[]int64{3, 9, 1, 5, 0}, []int64{7, 13, 1, 40}}, {[]int64{4}, nil}, {[]int64{8, 2, 2}, []int64{0, 5}}, {[]int64{-3, -9}, []int64{4}},
	}
	for _, c := range chains {
		total := int64(0)
		for _, d := range c.dists {
			total += d
		}
		for level := int64(-12); level <= 42; level++ {
			want := int64(-1)
			for s := int64(0); s <= total; s++ {
				if x, _ := Between(c.v, c.dists, s); x >= level {
					want = s
				}
			}
			s, e := Where(c.v, c.dists, level)
			if want >= 0 && (s != want || e != api.OK) || want < 0 && (s != 0 || e != api.ErrNone) {
				t.Errorf("Where %v is at least %d: %d, %v, want %d", c.v, level, s, e, want)
			}
		}
	}
	if s, _ := Where(chains[0].v, chains[0].dists, 30); s != 302 {
		t.Errorf("the chapter's example: %d", s)
	}
	if s, e := Where([]int64{1, 2}, []int64{5}, math.MinInt64); s != 5 || e != api.OK {
		t.Errorf("everywhere: %d, %v", s, e)
	}
	if _, e := Where([]int64{1, 2}, []int64{5}, math.MaxInt64); e != api.ErrNone {
		t.Errorf("nowhere: %v", e)
	}
}
