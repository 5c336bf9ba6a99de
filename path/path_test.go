package path

import (
	"math"
	"reflect"
	"testing"

	"flightdeck/api"
	"flightdeck/leg"
	"flightdeck/line"
	"flightdeck/turn"
)

const deg = api.Degree

func pt(x, y int64) api.Point { return api.Point{X: x, Y: y} }

// options have turns with the radius 3000 and climbs of 200 feet a mile from 1,000 ft.
func options() api.Options {
	return api.Options{Speed: 100, Bank: 1625, Alt: 100_000, Gradient: 20_000}
}

func entry(text string, end, mid api.Point) api.Entry {
	l, _, e := leg.Parse(text)
	if e != api.OK {
		panic(text)
	}
	return api.Entry{Leg: l, End: end, Mid: mid, Section: api.SecEnroute}
}

func at(text string, x, y int64) api.Entry { return entry(text, pt(x, y), pt(0, 0)) }

func gap() api.Entry { return api.Entry{Gap: true} }

func planOf(l ...api.Entry) api.Plan { return api.Plan{Active: -1, Entries: l} }

func straight(a, b api.Point, entry int) api.Element {
	return api.Element{A: a, B: b, Length: line.Dist(a, b), Entry: entry}
}

func curve(a, b, center api.Point, radius, from, sweep int64, entry int) api.Element {
	c := api.Arc{Center: center, Radius: radius, From: from, Sweep: sweep}
	return api.Element{Curved: true, A: a, B: b, Circle: c, Length: turn.Length(c), Entry: entry}
}

func behindGap(x api.Element) api.Element {
	x.Gap = true
	return x
}

func corner() api.Plan {
	return planOf(at("IF A/00", 0, -30_000), at("TF B/00", 0, 0), at("TF C/00", 30_000, 0))
}

func build(t *testing.T, p api.Plan, from api.Point, course int64) api.Path {
	t.Helper()
	b, i, e := Build(p, from, course, options())
	if e != api.OK || i != 0 {
		t.Fatalf("Build: %d, %v", i, e)
	}
	if e := Check(b); e != api.OK {
		t.Fatalf("the path is not valid: %v, %v", e, b)
	}
	return b
}

func compare(t *testing.T, name string, p api.Path, want ...api.Element) {
	t.Helper()
	sum := int64(0)
	for _, x := range want {
		sum += x.Length
	}
	if p.Length != sum || len(p.Elements) != len(want) || len(want) > 0 && !reflect.DeepEqual(p.Elements, want) {
		t.Errorf("%s: length %d, want %d", name, p.Length, sum)
		for i := range max(len(p.Elements), len(want)) {
			if i < len(p.Elements) {
				t.Errorf("  %d: %+v", i, p.Elements[i])
			}
			if i < len(want) {
				t.Errorf("  want %+v", want[i])
			}
		}
	}
}

// P27.2, P27.3
func TestFlyBy(t *testing.T) {
	mid := pt(879, -879)
	compare(t, "the chapter's example", build(t, corner(), pt(5, 5), 0),
		straight(pt(0, -30_000), pt(0, -3000), 1),
		curve(pt(0, -3000), mid, pt(3000, -3000), 3000, 270*deg, 45*deg, 1),
		curve(mid, pt(3000, 0), pt(3000, -3000), 3000, 315*deg, 45*deg, 2),
		straight(pt(3000, 0), pt(30_000, 0), 2))
	left := planOf(at("IF A/00", 0, -30_000), at("TF B/00", 0, 0), at("TF C/00", -30_000, 0))
	compare(t, "to the left", build(t, left, pt(5, 5), 0),
		straight(pt(0, -30_000), pt(0, -3000), 1),
		curve(pt(0, -3000), pt(-879, -879), pt(-3000, -3000), 3000, 90*deg, -45*deg, 1),
		curve(pt(-879, -879), pt(-3000, 0), pt(-3000, -3000), 3000, 45*deg, -45*deg, 2),
		straight(pt(-3000, 0), pt(-30_000, 0), 2))
	ahead := planOf(at("IF A/00", 0, -30_000), at("TF B/00", 0, 0), at("TF C/00", 0, 20_000))
	compare(t, "straight on", build(t, ahead, pt(5, 5), 0), straight(pt(0, -30_000), pt(0, 0), 1), straight(pt(0, 0), pt(0, 20_000), 2))
	over := planOf(at("IF A/00", 0, -30_000), at("TF B/00 over", 0, 0), at("TF C/00", 30_000, 0))
	compare(t, "over", build(t, over, pt(5, 5), 0), straight(pt(0, -30_000), pt(0, 0), 1), straight(pt(0, 0), pt(30_000, 0), 2))
	back := planOf(at("IF A/00", 0, -30_000), at("TF B/00", 0, 0), at("TF C/00", 5000, -10_000))
	compare(t, "too far around", build(t, back, pt(5, 5), 0), straight(pt(0, -30_000), pt(0, 0), 1), straight(pt(0, 0), pt(5000, -10_000), 2))
	// Half of the shorter leg is 2000 long: the radius becomes 2000.
	short := planOf(at("IF A/00", 0, -30_000), at("TF B/00", 0, 0), at("TF C/00", 4000, 0))
	m, _, _ := turn.At(api.Arc{Center: pt(2000, -2000), Radius: 2000, From: 270 * deg, Sweep: 45 * deg}, 1571)
	compare(t, "a narrow turn", build(t, short, pt(5, 5), 0),
		straight(pt(0, -30_000), pt(0, -2000), 1),
		curve(pt(0, -2000), m, pt(2000, -2000), 2000, 270*deg, 45*deg, 1),
		curve(m, pt(2000, 0), pt(2000, -2000), 2000, 315*deg, 45*deg, 2),
		straight(pt(2000, 0), pt(4000, 0), 2))
	for length, elements := range map[int64]int{1198: 2, 1199: 2, 1200: 4, 1201: 4} {
		p := build(t, planOf(at("IF A/00", 0, -30_000), at("TF B/00", 0, 0), at("TF C/00", length, 0)), pt(5, 5), 0)
		if len(p.Elements) != elements {
			t.Errorf("a leg of %d: %v", length, p.Elements)
		}
		q := build(t, planOf(at("IF A/00", 0, -length), at("TF B/00", 0, 0), at("TF C/00", 30_000, 0)), pt(5, 5), 0)
		if len(q.Elements) != elements {
			t.Errorf("a first leg of %d: %v", length, q.Elements)
		}
	}
	// Two turns of 2000 that meet in the middle of a leg of 4000: there is no line between them.
	zig := build(t, planOf(at("IF A/00", 0, -30_000), at("TF B/00", 0, 0), at("TF C/00", 4000, 0), at("TF D/00", 4000, 30_000)), pt(5, 5), 0)
	if len(zig.Elements) != 6 || zig.Elements[2].B != pt(2000, 0) || zig.Elements[3].A != pt(2000, 0) || zig.Elements[3].Entry != 2 || zig.Elements[4].Entry != 3 {
		t.Errorf("two turns: %v", zig.Elements)
	}
}

// P27.2
func TestKinds(t *testing.T) {
	zero := pt(0, 0)
	// No transitions behind legs that do not end at a fix.
	for _, text := range []string{"CA 000000000 1250", "FC A/00 000000000 d1+1500", "FA A/00 000000000 1250"} {
		x := entry(text, zero, zero)
		p := build(t, planOf(at("IF A/00", 0, 0), x, at("DF B/00", 30_000, 7500)), pt(5, 5), 0)
		compare(t, text, p, straight(zero, pt(0, 7500), 1), straight(pt(0, 7500), pt(30_000, 7500), 2))
	}
	p := build(t, planOf(at("IF A/00", 0, 0), entry("CD @C/00 000000000 d1", zero, pt(0, 13_500)), at("DF B/00", 30_000, 7500)), pt(5, 5), 0)
	compare(t, "CD", p, straight(zero, pt(0, 7500), 1), straight(pt(0, 7500), pt(30_000, 7500), 2))
	p = build(t, planOf(at("IF A/00", 0, 0), entry("CR @C/00 000000000 t270000000", zero, pt(9000, 7500)), at("DF B/00", 30_000, 7500)), pt(5, 5), 0)
	compare(t, "CR", p, straight(zero, pt(0, 7500), 1), straight(pt(0, 7500), pt(30_000, 7500), 2))
	p = build(t, planOf(at("IF A/00", 0, 0), entry("CI 000000000", zero, zero), at("CF B/00 090000000", 30_000, 7500)), pt(5, 5), 0)
	compare(t, "CI", p, straight(zero, pt(0, 7500), 1), straight(pt(0, 7500), pt(30_000, 7500), 2))
	// A CF begins beside the end of the leg ahead of it.
	p = build(t, planOf(at("IF A/00", 0, 0), at("CF B/00 090000000", 30_000, 7500)), pt(5, 5), 0)
	compare(t, "CF", p, straight(zero, pt(0, 7500), 1), straight(pt(0, 7500), pt(30_000, 7500), 1))
	// An arc, and a leg behind it without a transition.
	p = build(t, planOf(at("IF A/00", 0, 0), entry("RF B/00 @C/00 L r1", pt(6000, 6000), pt(0, 6000)), at("TF C/00", 6000, 30_000)), pt(5, 5), 0)
	compare(t, "RF", p, curve(zero, pt(6000, 6000), pt(0, 6000), 6000, api.Half, -90*deg, 1), straight(pt(6000, 6000), pt(6000, 30_000), 2))
	// An arc too short to be one becomes a line.
	p = build(t, planOf(at("IF A/00", 0, 100_000), entry("RF B/00 @C/00 R r16+4000", pt(0, 100_000), zero), at("TF C/00", 0, 120_000)), pt(5, 5), 0)
	if len(p.Elements) != 2 || !p.Elements[0].Curved || p.Elements[0].Length != 628_319 {
		t.Errorf("a whole circle: %v", p.Elements)
	}
	// A leg that the pilot ends.
	p = build(t, planOf(at("IF A/00", 0, 0), at("FM A/00 090000000", 0, 0)), pt(5, 5), 0)
	compare(t, "FM", p, straight(zero, pt(300_000, 0), 1))
	// The first leg, if it is no IF, begins where the aircraft is.
	p = build(t, planOf(at("DF A/00", 0, 9000)), pt(0, 5), 0)
	compare(t, "DF", p, straight(pt(0, 5), pt(0, 9000), 0))
	compare(t, "an IF alone", build(t, planOf(at("IF A/00", 0, 0)), pt(5, 5), 0))
	compare(t, "an empty plan", build(t, planOf(), pt(5, 5), 0))
	active := corner()
	active.Active = 2
	compare(t, "from the active leg on", build(t, active, pt(7, 0), 0), straight(pt(7, 0), pt(30_000, 0), 2))
}

// P27.2
func TestGaps(t *testing.T) {
	p := build(t, planOf(at("IF A/00", 0, 0), at("TF B/00", 0, 9000), gap(), at("IF C/00", 50, 50), at("TF D/00", 50, 9000)), pt(5, 5), 0)
	compare(t, "a gap", p, straight(pt(0, 0), pt(0, 9000), 1), behindGap(straight(pt(50, 50), pt(50, 9000), 4)))
	p = build(t, planOf(at("IF A/00", 0, 0), gap(), at("IF C/00", 50, 50), at("TF D/00", 50, 9000)), pt(5, 5), 0)
	compare(t, "a gap ahead of all elements", p, straight(pt(50, 50), pt(50, 9000), 3))
	p = build(t, planOf(at("IF A/00", 0, 0), at("TF B/00", 0, 9000), gap(), at("IF C/00", 50, 50), gap(), at("IF D/00", 70, 70), at("HM D/00 R 000000000 d5", 70, 70)), pt(5, 5), 0)
	if len(p.Elements) != 5 || p.Elements[0].Gap || !p.Elements[1].Gap || p.Elements[2].Gap || p.Elements[1].A != pt(70, 70) || !p.Elements[1].Curved {
		t.Errorf("two gaps, and a pattern: %v", p.Elements)
	}
	p = build(t, planOf(at("IF A/00", 0, 0), at("TF B/00", 0, 9000), gap(), at("CF C/00 090000000", 50, 50), at("TF D/00", 9050, 50)), pt(5, 5), 0)
	compare(t, "a CF behind a gap", p, straight(pt(0, 0), pt(0, 9000), 1), behindGap(straight(pt(50, 50), pt(9050, 50), 4)))
}

// P27.2: patterns.
func TestPatterns(t *testing.T) {
	p := build(t, planOf(at("IF A/00", 0, -30_000), at("TF B/00", 0, 0), at("HM B/00 R 000000000 d5", 0, 0), at("TF C/00", 30_000, 0)), pt(5, 5), 0)
	compare(t, "a direct entry", p,
		straight(pt(0, -30_000), pt(0, 0), 1),
		curve(pt(0, 0), pt(6000, 0), pt(3000, 0), 3000, 270*deg, api.Half, 2),
		straight(pt(6000, 0), pt(6000, -30_000), 2),
		curve(pt(6000, -30_000), pt(0, -30_000), pt(3000, -30_000), 3000, 90*deg, api.Half, 2),
		straight(pt(0, -30_000), pt(0, 0), 2),
		straight(pt(0, 0), pt(30_000, 0), 3))
	p = build(t, planOf(at("IF A/00", 0, 30_000), at("TF B/00", 0, 0), at("HF B/00 R 000000000 d5", 0, 0)), pt(5, 5), 0)
	if len(p.Elements) != 8 || p.Elements[1].B != pt(6000, -30_000) || p.Elements[4].A != pt(0, 0) || !p.Elements[4].Curved {
		t.Errorf("a teardrop: %v", p.Elements)
	}
	p = build(t, planOf(at("IF A/00", 0, 30_000), at("TF B/00", 0, 0), at("HA B/00 L 359000000 d5 5000", 0, 0)), pt(5, 5), 0)
	if len(p.Elements) != 8 || p.Elements[2].Circle.Sweep != -api.Half {
		t.Errorf("another teardrop: %v", p.Elements)
	}
	p = build(t, planOf(at("IF A/00", 30_000, 0), at("TF B/00", 0, 0), at("HM B/00 R 000000000 d5", 0, 0)), pt(5, 5), 0)
	if len(p.Elements) != 8 || p.Elements[1].B != pt(0, -30_000) || p.Elements[2].Circle.Sweep != -api.Half {
		t.Errorf("parallel: %v", p.Elements)
	}
	p = build(t, planOf(at("IF A/00", 0, -30_000), at("TF B/00", 0, 0), at("PI B/00 R 000000000 d5", 0, 0), at("TF C/00", 0, -30_000)), pt(5, 5), 0)
	if len(p.Elements) != 7 || p.Elements[1].B != pt(0, 30_000) || p.Elements[3].Circle.Radius != 3000 || p.Elements[5].B != pt(0, 0) || p.Elements[5].Entry != 2 {
		t.Errorf("a procedure turn: %v", p.Elements)
	}
}

// P27.3: a leg that is flown over, and a direct one behind it.
func TestFlyOver(t *testing.T) {
	p := build(t, planOf(at("IF A/00", 0, -30_000), at("TF B/00 over", 0, 0), at("DF C/00", 30_000, 0), at("TF D/00", 30_000, -30_000)), pt(5, 5), 0)
	if len(p.Elements) != 6 {
		t.Fatalf("%v", p.Elements)
	}
	c := pt(3000, 0)
	tangent, _ := turn.Tangent(c, 3000, api.Right, pt(30_000, 0))
	arc, _ := turn.Around(pt(0, 0), c, tangent, api.Right)
	first := straight(pt(0, -30_000), pt(0, 0), 1)
	second := api.Element{Curved: true, A: pt(0, 0), B: tangent, Circle: arc, Length: turn.Length(arc), Entry: 2}
	if p.Elements[0] != first || p.Elements[1] != second || p.Elements[2].A != tangent || p.Elements[2].Curved || p.Elements[2].Entry != 2 || !p.Elements[3].Curved || p.Elements[4].Entry != 3 {
		t.Errorf("%v", p.Elements)
	}
	// The turn at C is made from the line that comes from the tangent.
	f, _ := turn.FlyBy(tangent, pt(30_000, 0), pt(30_000, -30_000), 3000)
	if p.Elements[2].B != f.Start || p.Elements[4].B != f.End {
		t.Errorf("the turn behind it: %v, want %v", p.Elements[2:5], f)
	}
	p = build(t, planOf(at("IF A/00", 0, -30_000), at("TF B/00 over", 0, 0), at("DF C/00", -30_000, 0)), pt(5, 5), 0)
	if len(p.Elements) != 3 || p.Elements[1].Circle.Center != pt(-3000, 0) || p.Elements[1].Circle.Sweep >= 0 {
		t.Errorf("to the left: %v", p.Elements)
	}
	p = build(t, planOf(at("IF A/00", 0, -30_000), at("TF B/00 over", 0, 0), at("DF C/00", 0, 30_000)), pt(5, 5), 0)
	compare(t, "straight on", p, straight(pt(0, -30_000), pt(0, 0), 1), straight(pt(0, 0), pt(0, 30_000), 2))
	p = build(t, planOf(at("IF A/00", 0, -30_000), at("TF B/00 over", 0, 0), at("DF C/00", 3000, 10)), pt(5, 5), 0)
	compare(t, "within the circle", p, straight(pt(0, -30_000), pt(0, 0), 1), straight(pt(0, 0), pt(3000, 10), 2))
	p = build(t, planOf(at("IF A/00", 0, -30_000), at("CF B/00 000000000 over", 0, 0), at("DF C/00", 30_000, 0)), pt(5, 5), 0)
	if len(p.Elements) != 3 || !p.Elements[1].Curved {
		t.Errorf("behind a CF: %v", p.Elements)
	}
}

// P27.2
func TestBuildErrors(t *testing.T) {
	hold := planOf(at("IF A/00", -1_990_000, 0), at("HM A/00 R 090000000 d300", -1_990_000, 0))
	reversal := planOf(at("IF A/00", 1_990_000, 0), at("PI A/00 R 090000000 d5", 1_990_000, 0))
	slow := options()
	slow.Speed, slow.Bank = 1000, 1
	for i, c := range []struct {
		p    api.Plan
		from api.Point
		o    api.Options
		at   int
		want api.Errno
	}{
		{api.Plan{Active: 7}, pt(0, 0), options(), 0, api.ErrRange},
		{planOf(at("IF A/00", 0, 0), entry("CI 000000000", pt(0, 0), pt(0, 0))), pt(0, 0), options(), 1, api.ErrGeom},
		{corner(), pt(2_000_001, 0), options(), 0, api.ErrArg},
		{corner(), pt(0, 0), slow, 0, api.ErrRange},
		{corner(), pt(0, 0), api.Options{}, 0, api.ErrRange},
		{hold, pt(0, 0), options(), 1, api.ErrRange},
		{reversal, pt(0, 0), options(), 1, api.ErrRange},
	} {
		if p, at, e := Build(c.p, c.from, 0, c.o); !reflect.DeepEqual(p, api.Path{}) || at != c.at || e != c.want {
			t.Errorf("case %d: %v, %d, %v", i, p, at, e)
		}
	}
}

// P27.4: paths of plans at random are valid, without a gap but at discontinuities.
func TestBuildValid(t *testing.T) {
	texts := []string{"TF A/00", "TF B/00", "TF C/00 over", "DF C/00", "DF D/00", "TF D/00", "CF D/00 045000000", "CF A/00 200000000 over", "CA 090000000 1100", "CD @C/00 000000000 d9", "CR @C/00 200000000 t100000000", "FA A/00 000000000 9000", "FC B/00 090000000 d5", "HM A/00 R 000000000 d5", "HA B/00 L 090000000 d1 9000", "HF C/00 L 200000000 d0+1", "PI C/00 R 000000000 d5", "GAP", "IF D/00", "FM B/00 000000000", "RF B/00 @A/00 L r5", "AF D/00 @C/00 R r3"}
	x := uint64(5)
	next := func(n int) int {
		x = x*6364136223846793005 + 1442695040888963407
		return int(x>>33) % n
	}
	count := 0
	for k := range 100_000 {
		scale := int64(1 + k%7*k%9)
		points := map[byte]api.Point{'A': pt(0, 0), 'B': pt(7000*scale, 1000*scale), 'C': pt(3000*scale, -9000*scale), 'D': pt(-9000*scale, 12_000)}
		l := []api.Entry{entry("IF A/00", points['A'], pt(0, 0))}
		for range 5 {
			text := texts[next(len(texts))]
			if text == "GAP" {
				l = append(l, gap())
				continue
			}
			e := entry(text, pt(0, 0), pt(0, 0))
			if e.Leg.Fix != "" {
				e.End = points[e.Leg.Fix[0]]
			}
			if e.Leg.Center != "" {
				e.Mid = points[e.Leg.Center[0]]
			}
			l = append(l, e)
		}
		o := options()
		o.Speed = int64(20 + next(300))
		p, _, e := Build(planOf(l...), pt(5, 5), 0, o)
		if e != api.OK {
			continue
		}
		count++
		if e := Check(p); e != api.OK {
			t.Fatalf("%v: %v, %v", l, e, p)
		}
	}
	if count < 500 {
		t.Errorf("only %d paths", count)
	}
}

// P27.1
func TestCheck(t *testing.T) {
	good := build(t, corner(), pt(5, 5), 0)
	for i, c := range []struct {
		change func(p *api.Path)
		want   api.Errno
	}{
		{func(p *api.Path) {}, api.OK},
		{func(p *api.Path) { p.Elements = make([]api.Element, 501) }, api.ErrLimit},
		{func(p *api.Path) { p.Elements = make([]api.Element, 500) }, api.ErrForm},
		{func(p *api.Path) { p.Elements[0].A.X = 2_000_001; p.Elements[0].Length = 0 }, api.ErrArg},
		{func(p *api.Path) { p.Elements[3].B.Y = -2_000_001 }, api.ErrArg},
		{func(p *api.Path) { p.Elements[1].Circle.Radius = 0 }, api.ErrArg},
		{func(p *api.Path) { p.Elements[1].Circle.From = -1 }, api.ErrArg},
		{func(p *api.Path) { p.Elements[0].Circle.From = 1 }, api.ErrArg},
		{func(p *api.Path) { p.Elements[0].Length++ }, api.ErrForm},
		{func(p *api.Path) { p.Elements[1].Length-- }, api.ErrForm},
		{func(p *api.Path) { p.Elements[0].B = p.Elements[0].A; p.Elements[0].Length = 0 }, api.ErrForm},
		{func(p *api.Path) { p.Elements[1].Circle.Sweep = 0; p.Elements[1].Length = 0 }, api.ErrForm},
		{func(p *api.Path) { p.Elements[1].Circle.Center.X += 16; p.Elements[2].Circle.Center.X += 16 }, api.OK},
		{func(p *api.Path) { p.Elements[1].Circle.Center.X += 18; p.Elements[1].Entry = -1 }, api.ErrGeom},
		{func(p *api.Path) { p.Elements[1].Circle.Center.Y -= 18 }, api.ErrGeom},
		{func(p *api.Path) { p.Elements[1].B.X += 20 }, api.ErrGeom},
		{func(p *api.Path) { p.Elements[0].Entry = -1 }, api.ErrOrder},
		{func(p *api.Path) { p.Elements[0].Entry = 0 }, api.OK},
		{func(p *api.Path) { p.Elements[3].Entry = 1; p.Elements[3].A.X = 9 }, api.ErrForm},
		{func(p *api.Path) { p.Elements[3].Entry = 1 }, api.ErrOrder},
		{func(p *api.Path) { p.Elements[0].Gap = true }, api.ErrOrder},
		{func(p *api.Path) { p.Elements[3].Gap = true }, api.OK},
		{func(p *api.Path) { p.Elements[0].B.Y++; p.Elements[0].Length++ }, api.ErrGeom},
		{func(p *api.Path) { p.Elements[0].B.Y++; p.Elements[0].Length++; p.Length++; p.Elements[1].Gap = true }, api.OK},
		{func(p *api.Path) { p.Length++ }, api.ErrForm},
		{func(p *api.Path) { p.Length = math.MinInt64 }, api.ErrForm},
		{func(p *api.Path) { p.Elements = nil; p.Length = 0 }, api.OK},
		{func(p *api.Path) { p.Elements = nil }, api.ErrForm},
	} {
		p := api.Path{Elements: append([]api.Element(nil), good.Elements...), Length: good.Length}
		c.change(&p)
		if e := Check(p); e != c.want {
			t.Errorf("case %d: %v, want %v", i, e, c.want)
		}
		if c.want == api.OK {
			continue
		}
		q, course, e := At(p, 0)
		n, f := Node(p, 0)
		if q != (api.Point{}) || course != 0 || e != c.want || n != 0 || f != c.want {
			t.Errorf("case %d: At %v, Node %v", i, e, f)
		}
	}
}

// P27.5, P27.6
func TestPositions(t *testing.T) {
	p := build(t, corner(), pt(5, 5), 0)
	for _, c := range []struct {
		s      int64
		q      api.Point
		course int64
	}{
		{0, pt(0, -30_000), 0}, {1, pt(0, -29_999), 0}, {27_000, pt(0, -3000), 0}, {27_000 + 2356, pt(879, -879), 45 * deg}, {27_000 + 2*2356, pt(3000, 0), 90 * deg}, {27_000 + 2*2356 + 1, pt(3001, 0), 90 * deg}, {58_712, pt(30_000, 0), 90 * deg},
	} {
		if q, course, e := At(p, c.s); q != c.q || course != c.course || e != api.OK {
			t.Errorf("At(%d) = %v, %d, %v", c.s, q, course, e)
		}
	}
	for _, s := range []int64{-1, 58_713, math.MaxInt64, math.MinInt64} {
		if q, course, e := At(p, s); q != (api.Point{}) || course != 0 || e != api.ErrRange {
			t.Errorf("At(%d) = %v, %d, %v", s, q, course, e)
		}
	}
	if q, _, e := At(api.Path{}, 0); q != (api.Point{}) || e != api.ErrNone {
		t.Errorf("At of an empty path: %v", e)
	}
	if _, _, e := At(api.Path{}, 1); e != api.ErrRange {
		t.Errorf("At of an empty path: %v", e)
	}
	slant := build(t, planOf(at("IF A/00", 0, 0), at("TF B/00", 1, -7)), pt(5, 5), 0)
	for s, want := range []api.Point{pt(0, 0), pt(0, -1), pt(0, -2), pt(0, -3), pt(1, -4)} {
		if q, _, e := At(slant, int64(s)); q != want || e != api.OK {
			t.Errorf("At(%d) = %v, %v", s, q, e)
		}
	}
	half := api.Path{Elements: []api.Element{straight(pt(0, 0), pt(5, -5), 0)}, Length: 7}
	if q, _, e := At(half, 7); q != pt(5, -5) || e != api.OK {
		t.Errorf("the end: %v, %v", q, e)
	}
	even := api.Path{Elements: []api.Element{{A: pt(0, 0), B: pt(3, -1), Length: 3}}, Length: 3}
	for s, want := range []api.Point{pt(0, 0), pt(1, 0), pt(2, -1), pt(3, -1)} {
		if q, _, _ := At(even, int64(s)); q != want {
			t.Errorf("At(%d) = %v", s, q)
		}
	}
	for entry, want := range map[int]int64{-1: 0, 0: 0, 1: 29_356, 2: 58_712, 3: 58_712, math.MaxInt: 58_712, math.MinInt: 0} {
		if n, e := Node(p, entry); n != want || e != api.OK {
			t.Errorf("Node(%d) = %d, %v", entry, n, e)
		}
	}
}

// P27.6
func TestLocate(t *testing.T) {
	p := build(t, corner(), pt(5, 5), 0)
	if off, along, e := Locate(p.Elements[0], pt(7, -20_000)); off != 7 || along != 10_000 || e != api.OK {
		t.Errorf("on a line: %d, %d, %v", off, along, e)
	}
	if off, along, e := Locate(p.Elements[1], pt(3000, 0)); off != 0 || along != 2356 || e != api.OK {
		t.Errorf("on an arc: %d, %d, %v", off, along, e)
	}
	if off, along, e := Locate(p.Elements[1], pt(1000, -3000)); off != 1000 || along != 0 || e != api.OK {
		t.Errorf("in an arc: %d, %d, %v", off, along, e)
	}
	for i, c := range []struct {
		x    api.Element
		q    api.Point
		want api.Errno
	}{
		{p.Elements[1], pt(3000, -3000), api.ErrGeom}, {p.Elements[1], pt(2_000_001, 0), api.ErrArg}, {api.Element{Curved: true}, pt(0, 0), api.ErrArg}, {api.Element{}, pt(0, 0), api.ErrGeom}, {p.Elements[0], pt(0, -2_000_001), api.ErrArg},
	} {
		if off, along, e := Locate(c.x, c.q); off != 0 || along != 0 || e != c.want {
			t.Errorf("case %d: %d, %d, %v", i, off, along, e)
		}
	}
}
