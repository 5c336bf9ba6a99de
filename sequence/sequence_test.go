package sequence

import (
	"math"
	"reflect"
	"slices"
	"testing"

	"flightdeck/api"
	"flightdeck/leg"
	"flightdeck/line"
	"flightdeck/path"
)

const deg = api.Degree

func pt(x, y int64) api.Point { return api.Point{X: x, Y: y} }

func at(text string, x, y int64) api.Entry {
	if text == "GAP" {
		return api.Entry{Gap: true}
	}
	l, _, e := leg.Parse(text)
	if e != api.OK {
		panic(text)
	}
	return api.Entry{Leg: l, End: pt(x, y), Section: api.SecEnroute}
}

func build(t *testing.T, l ...api.Entry) api.Path {
	t.Helper()
	p, _, e := path.Build(api.Plan{Active: -1, Entries: l}, pt(5, 5), 0, api.Options{Speed: 100, Bank: 1625, Alt: 100_000, Gradient: 20_000})
	if e != api.OK {
		t.Fatal(e)
	}
	return p
}

// corner is the path of the chapter's example: a line, two arcs, a line.
func corner(t *testing.T) api.Path {
	return build(t, at("IF A/00", 0, -30_000), at("TF B/00", 0, 0), at("TF C/00", 30_000, 0))
}

// gapped has a gap behind its second element.
func gapped(t *testing.T) api.Path {
	return build(t, at("IF A/00", 0, 0), at("TF B/00", 0, 9000), at("TF C/00", 0, 18_000), at("GAP", 0, 0), at("IF D/00", 50, 50), at("TF E/00", 50, 9000))
}

func progress(element, entry int, done bool) api.Progress {
	return api.Progress{Element: element, Entry: entry, Done: done}
}

// P28.1
func TestStart(t *testing.T) {
	p := corner(t)
	for i, entry := range []int{1, 1, 2, 2} {
		if g, e := Start(p, i); g != progress(i, entry, false) || e != api.OK {
			t.Errorf("Start(%d) = %v, %v", i, g, e)
		}
	}
	for _, i := range []int{-1, 4, math.MaxInt, math.MinInt} {
		if g, e := Start(p, i); g != (api.Progress{}) || e != api.ErrRange {
			t.Errorf("Start(%d) = %v, %v", i, g, e)
		}
	}
	p.Length++
	if g, e := Start(p, 99); g != (api.Progress{}) || e != api.ErrForm {
		t.Errorf("Start of a path that is not valid: %v, %v", g, e)
	}
	if g, e := Start(api.Path{}, 0); g != (api.Progress{}) || e != api.ErrRange {
		t.Errorf("Start of an empty path: %v, %v", g, e)
	}
}

// P28.2
func TestPast(t *testing.T) {
	l := api.Element{A: pt(0, 0), B: pt(0, 1000), Length: 1000}
	right := api.Element{Curved: true, A: pt(0, 1000), B: pt(1000, 0), Circle: api.Arc{Center: pt(0, 0), Radius: 1000, From: 0, Sweep: 90 * deg}, Length: 1571}
	left := api.Element{Curved: true, A: pt(0, 1000), B: pt(-1000, 0), Circle: api.Arc{Center: pt(0, 0), Radius: 1000, From: 0, Sweep: -90 * deg}, Length: 1571}
	whole := api.Element{Curved: true, A: pt(0, 1000), B: pt(0, 1000), Circle: api.Arc{Center: pt(0, 0), Radius: 1000, From: 0, Sweep: api.Circle}, Length: 6283}
	for i, c := range []struct {
		x    api.Element
		q    api.Point
		want bool
	}{
		{l, pt(0, 999), false}, {l, pt(0, 1000), true}, {l, pt(-500, 1000), true}, {l, pt(500, 1001), true}, {l, pt(9000, 0), false},
		{api.Element{}, pt(5, 5), true},
		{right, pt(1000, 1), false}, {right, pt(1000, 0), true}, {right, pt(5, -5), true}, {right, pt(-999, -1001), true}, {right, pt(-1000, -1000), false}, {right, pt(-1001, -999), false}, {right, pt(-5, 5), false}, {right, pt(0, 0), false}, {right, pt(0, 77), false},
		{left, pt(-1000, 1), false}, {left, pt(-1000, 0), true}, {left, pt(999, -1001), true}, {left, pt(1000, -1000), false}, {left, pt(1001, -999), false},
		{whole, pt(1, 1000), false}, {whole, pt(-1, 1000), false}, {whole, pt(0, 1000), false},
		{l, pt(0, 2_000_001), false}, {right, pt(0, -2_000_001), false},
		{api.Element{A: pt(2_000_001, 0), B: pt(0, 0)}, pt(0, 0), false}, {api.Element{A: pt(0, 0), B: pt(0, 2_000_001)}, pt(0, 2_000_000), false}, {api.Element{Curved: true}, pt(5, 5), false},
	} {
		if got := Past(c.x, c.q); got != c.want {
			t.Errorf("case %d: %v", i, got)
		}
	}
}

// P28.3
func TestStep(t *testing.T) {
	p := corner(t)
	for i, c := range []struct {
		g      api.Progress
		q      api.Point
		want   api.Progress
		passed []int
	}{
		{progress(0, 1, false), pt(0, -3001), progress(0, 1, false), nil},
		{progress(0, 1, false), pt(0, -3000), progress(1, 1, false), nil},
		{progress(1, 1, false), pt(870, -879), progress(1, 1, false), nil},
		{progress(1, 1, false), pt(890, -879), progress(2, 2, false), []int{1}},
		{progress(0, 77, false), pt(0, -9000), progress(0, 1, false), nil},
		{progress(3, 2, false), pt(29_999, 7), progress(3, 2, false), nil},
		{progress(3, 2, false), pt(30_000, 7), progress(3, 2, true), []int{2}},
		{progress(3, 2, true), pt(0, 0), progress(3, 2, true), nil},
		{progress(4, 2, false), pt(0, 0), progress(4, 2, false), nil},
		{progress(-1, 5, false), pt(0, 0), progress(-1, 5, false), nil},
		{progress(0, 5, false), pt(2_000_001, 0), progress(0, 5, false), nil},
	} {
		if g, passed := Step(p, c.g, c.q); g != c.want || !slices.Equal(passed, c.passed) {
			t.Errorf("case %d: %v, %v", i, g, passed)
		}
	}
	p.Length++
	if g, passed := Step(p, progress(0, 5, false), pt(0, 0)); g != progress(0, 5, false) || len(passed) != 0 {
		t.Errorf("a path that is not valid: %v, %v", g, passed)
	}
	gap := gapped(t)
	if g, passed := Step(gap, progress(0, 1, false), pt(0, 20_000)); g != progress(1, 2, true) || !slices.Equal(passed, []int{1, 2}) {
		t.Errorf("to the gap: %v, %v", g, passed)
	}
	if g, passed := Step(gap, progress(2, 0, false), pt(0, 20_000)); g != progress(2, 5, true) || !slices.Equal(passed, []int{5}) {
		t.Errorf("behind the gap: %v, %v", g, passed)
	}
}

// P28.3, P28.5: along the path of the chapter's example.
func TestFly(t *testing.T) {
	p := corner(t)
	g, _ := Start(p, 0)
	var passed []int
	for s := int64(0); s <= p.Length; s += 100 {
		q, _, _ := path.At(p, s)
		next, l := Step(p, g, q)
		if next.Element < g.Element {
			t.Fatalf("at %d: from %v to %v", s, g, next)
		}
		again, more := Step(p, next, q)
		if again != next || len(more) != 0 {
			t.Fatalf("at %d: once more %v, %v", s, again, more)
		}
		g = next
		passed = append(passed, l...)
	}
	q, _, _ := path.At(p, p.Length)
	g, l := Step(p, g, q)
	passed = append(passed, l...)
	if g != progress(3, 2, true) || !slices.Equal(passed, []int{1, 2}) {
		t.Errorf("%v, %v", g, passed)
	}
	// The chapter's example: two points.
	g, _ = Start(p, 0)
	g, l = Step(p, g, pt(0, -3000))
	if g.Element != 1 || len(l) != 0 {
		t.Errorf("at {0, -3000}: %v, %v", g, l)
	}
	if g, l := Step(p, g, pt(30_000, 0)); g != progress(3, 2, true) || !slices.Equal(l, []int{1, 2}) {
		t.Errorf("at {30000, 0}: %v, %v", g, l)
	}
}

// P28.4
func TestToGo(t *testing.T) {
	p := corner(t)
	gap := gapped(t)
	for i, c := range []struct {
		p    api.Path
		g    api.Progress
		q    api.Point
		want int64
		e    api.Errno
	}{
		{p, progress(0, 1, false), pt(0, -30_000), 58_712, api.OK},
		{p, progress(0, 1, false), pt(50, -20_000), 48_712, api.OK},
		{p, progress(0, 1, false), pt(0, -40_000), 58_712, api.OK},
		{p, progress(0, 1, false), pt(0, 40_000), 31_712, api.OK},
		{p, progress(2, 2, false), pt(3000, 0), 27_000, api.OK},
		{p, progress(3, 2, false), pt(29_990, 0), 10, api.OK},
		{p, progress(3, 2, true), pt(0, 0), 0, api.OK},
		{p, progress(3, 2, true), pt(2_000_001, 0), 0, api.OK},
		{gap, progress(0, 1, false), pt(0, 0), 18_000, api.OK},
		{gap, progress(1, 2, false), pt(0, 10_000), 8000, api.OK},
		{gap, progress(2, 5, false), pt(50, 50), line.Dist(pt(50, 50), pt(50, 9000)), api.OK},
		{p, progress(-1, 0, true), pt(0, 0), 0, api.ErrRange},
		{p, progress(4, 0, false), pt(0, 0), 0, api.ErrRange},
		{p, progress(0, 0, false), pt(2_000_001, 0), 0, api.ErrArg},
		{p, progress(1, 0, false), p.Elements[1].Circle.Center, 0, api.ErrGeom},
		{api.Path{Length: 1}, progress(0, 0, true), pt(0, 0), 0, api.ErrForm},
	} {
		if got, e := ToGo(c.p, c.g, c.q); got != c.want || e != c.e {
			t.Errorf("case %d: %d, %v", i, got, e)
		}
	}
	if !reflect.DeepEqual(p, corner(t)) {
		t.Errorf("the path is changed")
	}
}
