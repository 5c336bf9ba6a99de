package hold

import (
	"math"
	"slices"
	"testing"

	"flightdeck/api"
	"flightdeck/line"
	"flightdeck/turn"
)

const deg = api.Degree

func pt(x, y int64) api.Point { return api.Point{X: x, Y: y} }

func straightTo(a, b api.Point, length int64) api.Element {
	return api.Element{A: a, B: b, Length: length}
}

func curve(a, b, center api.Point, radius, from, sweep, length int64) api.Element {
	return api.Element{Curved: true, A: a, B: b, Circle: api.Arc{Center: center, Radius: radius, From: from, Sweep: sweep}, Length: length}
}

// P26.1
func TestEntry(t *testing.T) {
	for _, c := range []struct {
		course, inbound int64
		turn            byte
		want            api.HoldKind
	}{
		{0, 0, api.Right, api.DirectEntry}, {90, 0, api.Right, api.DirectEntry}, {120, 0, api.Right, api.TeardropEntry}, {190, 0, api.Right, api.ParallelEntry}, {290, 0, api.Right, api.ParallelEntry}, {300, 0, api.Right, api.DirectEntry},
		{0, 0, api.Left, api.DirectEntry}, {270, 0, api.Left, api.DirectEntry}, {240, 0, api.Left, api.TeardropEntry}, {170, 0, api.Left, api.ParallelEntry}, {70, 0, api.Left, api.ParallelEntry}, {60, 0, api.Left, api.DirectEntry},
		{110, 0, api.Right, api.DirectEntry}, {180, 0, api.Right, api.TeardropEntry}, {181, 0, api.Right, api.ParallelEntry}, {291, 0, api.Right, api.DirectEntry},
		{250, 0, api.Left, api.DirectEntry}, {180, 0, api.Left, api.TeardropEntry}, {179, 0, api.Left, api.ParallelEntry}, {69, 0, api.Left, api.DirectEntry},
		{0, 0, 0, 0}, {0, 0, 3, 0}, {120 + 360, -360, api.Right, api.TeardropEntry}, {200, 80, api.Right, api.TeardropEntry},
	} {
		if got := Entry(c.course*deg, c.inbound*deg, c.turn); got != c.want {
			t.Errorf("Entry(%d, %d, %d) = %d, want %d", c.course, c.inbound, c.turn, got, c.want)
		}
	}
	// The borders, to the unit, and angles of any size.
	for _, c := range []struct {
		course int64
		want   api.HoldKind
	}{{110*deg + 1, api.TeardropEntry}, {110 * deg, api.DirectEntry}, {290 * deg, api.ParallelEntry}, {290*deg + 1, api.DirectEntry}, {180 * deg, api.TeardropEntry}, {180*deg + 1, api.ParallelEntry}} {
		if got := Entry(c.course, 0, api.Right); got != c.want {
			t.Errorf("Entry(%d) = %d, want %d", c.course, got, c.want)
		}
		if got := Entry(-c.course, 0, api.Left); got != c.want {
			t.Errorf("the mirror image of %d: %d, want %d", c.course, got, c.want)
		}
	}
	Entry(math.MaxInt64, math.MinInt64, api.Left)
}

// P26.2, P26.3
func TestPattern(t *testing.T) {
	got, e := Pattern(pt(0, 0), 0, api.Right, 30_000, 6000)
	want := []api.Element{
		curve(pt(0, 0), pt(12_000, 0), pt(6000, 0), 6000, 270*deg, api.Half, 18_850),
		straightTo(pt(12_000, 0), pt(12_000, -30_000), 30_000),
		curve(pt(12_000, -30_000), pt(0, -30_000), pt(6000, -30_000), 6000, 90*deg, api.Half, 18_850),
		straightTo(pt(0, -30_000), pt(0, 0), 30_000),
	}
	if !slices.Equal(got, want) || e != api.OK {
		t.Errorf("right turns: %v, %v", got, e)
	}
	got, e = Pattern(pt(100, 200), 90*deg, api.Left, 30_000, 6000)
	want = []api.Element{
		curve(pt(100, 200), pt(100, 12_200), pt(100, 6200), 6000, 180*deg, -api.Half, 18_850),
		straightTo(pt(100, 12_200), pt(-29_900, 12_200), 30_000),
		curve(pt(-29_900, 12_200), pt(-29_900, 200), pt(-29_900, 6200), 6000, 0, -api.Half, 18_850),
		straightTo(pt(-29_900, 200), pt(100, 200), 30_000),
	}
	if !slices.Equal(got, want) || e != api.OK {
		t.Errorf("left turns: %v, %v", got, e)
	}
	got, e = Enter(api.TeardropEntry, pt(0, 0), 0, api.Right, 30_000, 6000)
	want = []api.Element{
		straightTo(pt(0, 0), pt(12_000, -30_000), 32_310),
		curve(pt(12_000, -30_000), pt(0, -30_000), pt(6000, -30_000), 6000, 90*deg, api.Half, 18_850),
		straightTo(pt(0, -30_000), pt(0, 0), 30_000),
	}
	if !slices.Equal(got, want) || e != api.OK {
		t.Errorf("teardrop: %v, %v", got, e)
	}
	got, e = Enter(api.ParallelEntry, pt(0, 0), 0, api.Right, 30_000, 6000)
	want = []api.Element{
		straightTo(pt(0, 0), pt(0, -30_000), 30_000),
		curve(pt(0, -30_000), pt(12_000, -30_000), pt(6000, -30_000), 6000, 270*deg, -api.Half, 18_850),
		straightTo(pt(12_000, -30_000), pt(0, 0), 32_310),
	}
	if !slices.Equal(got, want) || e != api.OK {
		t.Errorf("parallel: %v, %v", got, e)
	}
	got, e = Enter(api.ParallelEntry, pt(0, 0), 0, api.Left, 30_000, 6000)
	if e != api.OK || got[1] != curve(pt(0, -30_000), pt(-12_000, -30_000), pt(-6000, -30_000), 6000, 90*deg, api.Half, 18_850) {
		t.Errorf("parallel with left turns: %v, %v", got, e)
	}
	if got, e := Enter(api.DirectEntry, pt(0, 0), 0, api.Right, 30_000, 6000); len(got) != 0 || e != api.OK {
		t.Errorf("direct: %v, %v", got, e)
	}
}

// P26.4
func TestReversal(t *testing.T) {
	got, e := Reversal(pt(0, 0), 0, api.Right, 30_000, 6000)
	q, s := pt(0, 30_000), pt(12_728, 42_728)
	c, r := pt(8485, 46_971), pt(4243, 51_213)
	m := pt(0, 30_000+16_971)
	want := []api.Element{
		straightTo(pt(0, 0), q, 30_000),
		straightTo(q, s, line.Dist(q, s)),
		curve(s, r, c, 6000, 135*deg, -api.Half, 18_850),
		straightTo(r, m, line.Dist(r, m)),
		straightTo(m, pt(0, 0), 46_971),
	}
	if !slices.Equal(got, want) || e != api.OK {
		t.Errorf("right turn: %v, %v", got, e)
	}
	got, e = Reversal(pt(0, 0), 0, api.Left, 30_000, 6000)
	if e != api.OK || len(got) != 5 || got[1].B != pt(-12_728, 42_728) || got[2].Circle.From != 225*deg || got[2].Circle.Sweep != api.Half || got[2].B.X != -4243 {
		t.Errorf("left turn: %v, %v", got, e)
	}
}

// P26.2, P26.3, P26.4
func TestErrors(t *testing.T) {
	type args struct {
		fix         api.Point
		course      int64
		turn        byte
		leg, radius int64
	}
	ok := args{pt(0, 0), 0, api.Right, 30_000, 6000}
	for i, c := range []struct {
		change            func(a *args)
		pattern, reversal api.Errno
	}{
		{func(a *args) {}, api.OK, api.OK},
		{func(a *args) { a.fix.X = 2_000_001; a.leg = 0 }, api.ErrArg, api.ErrArg},
		{func(a *args) { a.turn = 0; a.leg = 0 }, api.ErrArg, api.ErrArg},
		{func(a *args) { a.turn = 3 }, api.ErrArg, api.ErrArg},
		{func(a *args) { a.course = -1 }, api.ErrRange, api.ErrRange},
		{func(a *args) { a.course = api.Circle }, api.ErrRange, api.ErrRange},
		{func(a *args) { a.leg = 0 }, api.ErrRange, api.ErrRange},
		{func(a *args) { a.leg = api.MaxXY + 1 }, api.ErrRange, api.ErrRange},
		{func(a *args) { a.leg = math.MaxInt64 }, api.ErrRange, api.ErrRange},
		{func(a *args) { a.radius = 0 }, api.ErrRange, api.ErrRange},
		{func(a *args) { a.radius = api.MaxXY + 1 }, api.ErrRange, api.ErrRange},
		{func(a *args) { a.radius = api.MaxXY/3 + 1; a.leg = 5 }, api.OK, api.ErrRange},
		{func(a *args) { a.radius = math.MinInt64 }, api.ErrRange, api.ErrRange},
		{func(a *args) { a.leg = api.MaxXY }, api.OK, api.ErrRange},
		{func(a *args) { a.leg = api.MaxXY; a.fix.Y = -1 }, api.ErrRange, api.ErrRange},
		{func(a *args) { a.fix.X = 2_000_000 - 12_000 }, api.OK, api.ErrRange},
		{func(a *args) { a.fix.X = 2_000_000 - 11_999 }, api.ErrRange, api.ErrRange},
		{func(a *args) { a.fix.X = -2_000_000; a.course = 46 * deg }, api.ErrRange, api.OK},
		{func(a *args) { a.fix = pt(2_000_000-9000, -2_000_000+25_000); a.course = 45 * deg }, api.ErrRange, api.ErrRange},
	} {
		a := ok
		c.change(&a)
		got, e := Pattern(a.fix, a.course, a.turn, a.leg, a.radius)
		if e != c.pattern || (len(got) == 4) != (e == api.OK) {
			t.Errorf("case %d: Pattern %v, %v, want %v", i, got, e, c.pattern)
		}
		for _, k := range []api.HoldKind{0, api.DirectEntry, api.ParallelEntry, api.TeardropEntry, 4, 255} {
			want := c.pattern
			if want == api.OK && (k == 0 || k > 3) {
				want = api.ErrArg
			}
			if got, e := Enter(k, a.fix, a.course, a.turn, a.leg, a.radius); e != want || e != api.OK && len(got) > 0 {
				t.Errorf("case %d: Enter(%d) %v, %v, want %v", i, k, got, e, want)
			}
		}
		got, e = Reversal(a.fix, a.course, a.turn, a.leg, a.radius)
		if e != c.reversal || (len(got) == 5) != (e == api.OK) {
			t.Errorf("case %d: Reversal %v, %v, want %v", i, got, e, c.reversal)
		}
	}
}

func near(p, q api.Point, most int64) bool {
	return max(p.X-q.X, q.X-p.X, p.Y-q.Y, q.Y-p.Y) <= most
}

// P26.5
func TestClosed(t *testing.T) {
	count := 0
	for i := range int64(600) {
		fix := pt(i*7919%2_000_001-1_000_000, i*104_729%1_900_001-950_000)
		course, side := i*98_765_431%api.Circle, byte(1+i%2)
		leg, radius := 1+i*i*7%300_000, 1+i*i*i%100_000
		pattern, _ := Pattern(fix, course, side, leg, radius)
		tear, _ := Enter(api.TeardropEntry, fix, course, side, leg, radius)
		parallel, _ := Enter(api.ParallelEntry, fix, course, side, leg, radius)
		reversal, _ := Reversal(fix, course, side, leg, radius)
		for _, l := range [][]api.Element{pattern, tear, parallel, reversal} {
			if len(l) == 0 {
				continue
			}
			count++
			at := fix
			for _, x := range l {
				if x.A != at || x.Entry != 0 || x.Gap {
					t.Fatalf("%v begins in %v, not in %v", x, x.A, at)
				}
				at = x.B
				if !x.Curved {
					if x.Length != line.Dist(x.A, x.B) || x.Circle != (api.Arc{}) {
						t.Fatalf("%v", x)
					}
					continue
				}
				a, _, e := turn.At(x.Circle, 0)
				b, _, f := turn.At(x.Circle, x.Length)
				if !turn.Valid(x.Circle) || x.Length != turn.Length(x.Circle) || e == api.OK && !near(a, x.A, 8) || f == api.OK && !near(b, x.B, 8) {
					t.Fatalf("%v: from %v to %v", x, a, b)
				}
			}
			if at != fix {
				t.Fatalf("%v ends in %v, not in %v", l, at, fix)
			}
		}
	}
	if count < 2000 {
		t.Errorf("only %d", count)
	}
}
