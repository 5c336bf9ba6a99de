package speedplan

import (
	"math"
	"slices"
	"testing"

	"flightdeck/api"
	"flightdeck/constraint"
	"flightdeck/profile"
)

func w(lo, hi int64) api.Window { return api.Window{Lo: lo, Hi: hi} }

func st(up, down int64) api.Step { return api.Step{Up: up, Down: down} }

// chain is the chapter's example.
func chain() ([]api.Window, []api.Step) {
	return []api.Window{w(100, 200), w(100, 300), w(100, 160)}, []api.Step{st(20, 14), st(15, 10)}
}

// P35.1
func TestSteps(t *testing.T) {
	for i, c := range []struct {
		dists        []int64
		accel, decel int64
		want         []api.Step
		e            api.Errno
	}{
		{[]int64{12_000, 9000}, 10, 7, []api.Step{st(20, 14), st(15, 10)}, api.OK},
		{nil, 1000, 0, nil, api.OK},
		{[]int64{0, 5999, 6000, api.MaxDist}, 1, 1000, []api.Step{st(0, 0), st(0, 999), st(1, 1000), st(1333, 1_333_333)}, api.OK},
		{make([]int64, 63), 1, 1, make([]api.Step, 63), api.OK},
		{make([]int64, 64), -1, 1, nil, api.ErrLimit},
		{[]int64{-1}, 1, 1, nil, api.ErrRange}, {[]int64{api.MaxDist + 1}, 1, 1, nil, api.ErrRange}, {nil, -1, 0, nil, api.ErrRange}, {nil, 1001, 0, nil, api.ErrRange}, {nil, 0, -1, nil, api.ErrRange}, {nil, 0, 1001, nil, api.ErrRange}, {[]int64{math.MaxInt64}, math.MaxInt64, 1, nil, api.ErrRange},
	} {
		if got, e := Steps(c.dists, c.accel, c.decel); !slices.Equal(got, c.want) || e != c.e {
			t.Errorf("case %d: %v, %v", i, got, e)
		}
	}
}

// P35.2
func TestLimit(t *testing.T) {
	ws := []api.Window{w(150, 400), w(260, 400), w(260, 400), w(0, 90)}
	got, e := Limit(ws, []int64{900_000, 1_100_000, 999_999, 0}, 1_000_000, 250)
	if !slices.Equal(got, []api.Window{w(150, 250), w(260, 400), w(260, 250), w(0, 90)}) || e != api.OK {
		t.Errorf("%v, %v", got, e)
	}
	got[1].Hi = 0
	if ws[1].Hi != 400 || ws[0].Hi != 400 {
		t.Errorf("Limit shares memory")
	}
	if got, e := Limit(ws[:1], []int64{1_000_000}, 1_000_000, 250); !slices.Equal(got, ws[:1]) || e != api.OK {
		t.Errorf("at the altitude: %v, %v", got, e)
	}
	for i, c := range []struct {
		ws    []api.Window
		alts  []int64
		speed int64
		want  api.Errno
	}{
		{make([]api.Window, 65), nil, -1, api.ErrLimit}, {ws, make([]int64, 3), -1, api.ErrArg}, {ws, make([]int64, 4), -1, api.ErrRange}, {ws, make([]int64, 4), 1001, api.ErrRange}, {nil, nil, 1000, api.OK}, {make([]api.Window, 64), make([]int64, 64), 0, api.OK},
	} {
		if got, e := Limit(c.ws, c.alts, 5, c.speed); e != c.want || e != api.OK && len(got) > 0 {
			t.Errorf("case %d: %v, %v", i, got, e)
		}
	}
}

// P35.3
func TestPlan(t *testing.T) {
	ws, steps := chain()
	for wish, want := range map[int64][]int64{300: {184, 170, 160}, 175: {175, 170, 160}, 120: {120, 120, 120}, 1_000_000: {184, 170, 160}} {
		if got, e := Plan(ws, steps, []int64{wish, wish, wish}); !slices.Equal(got, want) || e != api.OK {
			t.Errorf("wish %d: %v, %v", wish, got, e)
		}
	}
	bad := []api.Window{w(0, 1001), w(0, 1), w(0, 1)}
	for i, c := range []struct {
		ws   []api.Window
		st   []api.Step
		wish []int64
		want api.Errno
	}{
		{make([]api.Window, 65), nil, nil, api.ErrLimit}, {bad, nil, nil, api.ErrArg}, {bad, steps, nil, api.ErrRange}, {[]api.Window{w(-1, 5)}, nil, nil, api.ErrRange}, {[]api.Window{w(5, -1)}, nil, nil, api.ErrRange}, {[]api.Window{w(1001, 5)}, nil, nil, api.ErrRange},
		{ws, steps, []int64{1}, api.ErrArg}, {ws, steps, []int64{1, 2, constraint.Bound + 1}, api.ErrRange}, {ws, steps, []int64{99, 200, 200}, api.ErrConflict}, {[]api.Window{w(6, 5)}, nil, []int64{9}, api.ErrConflict},
	} {
		if got, e := Plan(c.ws, c.st, c.wish); len(got) > 0 || e != c.want {
			t.Errorf("case %d: %v, %v", i, got, e)
		}
	}
}

// P35.4, P35.5
func TestFamily(t *testing.T) {
	ws, steps := chain()
	span, e := Span(ws, steps)
	if span != 84 || e != api.OK {
		t.Errorf("Span: %d, %v", span, e)
	}
	if got, e := Family(ws, steps, 65); !slices.Equal(got, []int64{165, 165, 160}) || e != api.OK {
		t.Errorf("Family: %v, %v", got, e)
	}
	least, _ := profile.Least(ws, steps)
	greatest, _ := profile.Greatest(ws, steps)
	for k := int64(0); k <= 1000; k++ {
		got, e := Family(ws, steps, k)
		if e != api.OK || !constraint.Meets(ws, steps, got) || slices.Equal(got, greatest) != (k >= span) || slices.Equal(got, least) != (k == 0) {
			t.Fatalf("k = %d: %v, %v", k, got, e)
		}
	}
	if got, e := Family(nil, nil, 5); len(got) > 0 || e != api.OK {
		t.Errorf("no nodes: %v, %v", got, e)
	}
	if n, e := Span(nil, nil); n != 0 || e != api.OK {
		t.Errorf("no nodes: %d, %v", n, e)
	}
	conflict := slices.Clone(ws)
	conflict[2] = w(300, 310)
	for i, c := range []struct {
		ws         []api.Window
		st         []api.Step
		k          int64
		want, span api.Errno
	}{
		{make([]api.Window, 65), nil, -1, api.ErrLimit, api.ErrLimit}, {ws, nil, -1, api.ErrArg, api.ErrArg}, {[]api.Window{w(0, 1001)}, nil, 0, api.ErrRange, api.ErrRange}, {[]api.Window{w(-1, 1)}, nil, 0, api.ErrRange, api.ErrRange}, {conflict, steps, -1, api.ErrRange, api.ErrConflict}, {ws, steps, 1001, api.ErrRange, api.OK}, {conflict, steps, 5, api.ErrConflict, api.ErrConflict},
	} {
		if got, e := Family(c.ws, c.st, c.k); len(got) > 0 || e != c.want {
			t.Errorf("case %d: Family %v, %v", i, got, e)
		}
		if n, e := Span(c.ws, c.st); e != c.span || e != api.OK && n != 0 {
			t.Errorf("case %d: Span %d, %v", i, n, e)
		}
	}
}

// P35.6
func TestTicks(t *testing.T) {
	for i, c := range []struct {
		dists, grounds, want []int64
		e                    api.Errno
	}{
		{[]int64{1000, 0}, []int64{300, 300}, []int64{4, 0}, api.OK},
		{[]int64{900, 901, 1, api.MaxDist}, []int64{300, 300, 5000, 1}, []int64{3, 4, 1, api.MaxDist}, api.OK},
		{nil, nil, nil, api.OK},
		{make([]int64, 65), nil, nil, api.ErrArg},
		{make([]int64, 65), make([]int64, 65), nil, api.ErrLimit},
		{[]int64{-1}, []int64{5}, nil, api.ErrRange}, {[]int64{api.MaxDist + 1}, []int64{5}, nil, api.ErrRange}, {[]int64{5}, []int64{0}, nil, api.ErrRange}, {[]int64{5}, []int64{5001}, nil, api.ErrRange}, {[]int64{math.MaxInt64}, []int64{math.MaxInt64}, nil, api.ErrRange},
	} {
		if got, e := Ticks(c.dists, c.grounds); !slices.Equal(got, c.want) || e != c.e {
			t.Errorf("case %d: %v, %v", i, got, e)
		}
	}
}
