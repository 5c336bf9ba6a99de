package resolve

import (
	"math"
	"slices"
	"testing"

	"flightdeck/api"
	"flightdeck/leg"
	"flightdeck/line"
	"flightdeck/turn"
)

const deg = api.Degree

func pt(x, y int64) api.Point { return api.Point{X: x, Y: y} }

func options() api.Options {
	return api.Options{Speed: 250, Bank: 2500, Alt: 100_000, Gradient: 20_000}
}

// entry makes the entry of a leg with the points of its fix and center.
func entry(text string, end, mid api.Point) api.Entry {
	l, _, e := leg.Parse(text)
	if e != api.OK {
		panic(text)
	}
	return api.Entry{Leg: l, End: end, Mid: mid, Section: api.SecEnroute}
}

func gap() api.Entry { return api.Entry{Gap: true} }

func straightTrack(a, b api.Point, in, out, length int64) api.Track {
	return api.Track{Kind: api.StraightTrack, A: a, B: b, In: in, Out: out, Length: length}
}

// P25.1
func TestCheck(t *testing.T) {
	for i, c := range []struct {
		change func(o *api.Options)
		want   api.Errno
	}{
		{func(o *api.Options) {}, api.OK},
		{func(o *api.Options) { *o = api.Options{Speed: 1, Bank: 1, Alt: api.MinAlt, Gradient: 1} }, api.OK},
		{func(o *api.Options) {
			*o = api.Options{Speed: api.MaxSpeed, Bank: api.MaxBank, Alt: api.MaxAlt, Gradient: 100_000}
		}, api.OK},
		{func(o *api.Options) { o.Speed = 0 }, api.ErrRange}, {func(o *api.Options) { o.Speed = 1001 }, api.ErrRange},
		{func(o *api.Options) { o.Bank = 0 }, api.ErrRange}, {func(o *api.Options) { o.Bank = 3001 }, api.ErrRange},
		{func(o *api.Options) { o.Alt = api.MinAlt - 1 }, api.ErrRange}, {func(o *api.Options) { o.Alt = api.MaxAlt + 1 }, api.ErrRange},
		{func(o *api.Options) { o.Gradient = 0 }, api.ErrRange}, {func(o *api.Options) { o.Gradient = 100_001 }, api.ErrRange},
	} {
		o := options()
		c.change(&o)
		if e := Check(o); e != c.want {
			t.Errorf("case %d: %v", i, e)
		}
		if tr, e := Resolve(pt(0, 0), 0, 0, gap(), gap(), o); c.want != api.OK && (tr != api.Track{} || e != c.want) {
			t.Errorf("case %d: Resolve %v", i, e)
		}
		if l, at, e := Tracks(api.Plan{Active: -1}, pt(0, 0), 0, o); len(l) != 0 || at != 0 || e != c.want {
			t.Errorf("case %d: Tracks %v", i, e)
		}
	}
}

// P25.2: one leg at a time, from {0, 0} on the course 40 degrees at 1,000 ft.
func TestResolve(t *testing.T) {
	zero := pt(0, 0)
	arc := api.Arc{Center: pt(0, 6000), Radius: 6000, From: api.Half, Sweep: -90 * deg}
	for i, c := range []struct {
		x, next api.Entry
		want    api.Track
		e       api.Errno
	}{
		{entry("IF A/00", pt(5, 7), zero), gap(), straightTrack(pt(5, 7), pt(5, 7), 40*deg, 40*deg, 0), api.OK},
		{entry("TF A/00", pt(3000, 4000), zero), gap(), straightTrack(zero, pt(3000, 4000), 13_273_163, 13_273_163, 5000), api.OK},
		{entry("TF A/00", zero, zero), gap(), straightTrack(zero, zero, 40*deg, 40*deg, 0), api.OK},
		{entry("DF A/00", pt(0, -700), zero), gap(), straightTrack(zero, pt(0, -700), 180*deg, 180*deg, 700), api.OK},
		// CF: on its course, beside it, beyond it.
		{entry("CF A/00 000000000", pt(8, 50_000), zero), gap(), straightTrack(zero, pt(8, 50_000), 3300, 3300, 50_000), api.OK},
		{entry("CF A/00 000000000", pt(-8, 50_000), zero), gap(), straightTrack(zero, pt(-8, 50_000), api.Circle-3300, api.Circle-3300, 50_000), api.OK},
		{entry("CF A/00 000000000", pt(9, 50_000), zero), gap(), straightTrack(pt(9, 0), pt(9, 50_000), 0, 0, 50_000), api.OK},
		{entry("CF A/00 090000000", pt(70_000, -5000), zero), gap(), straightTrack(pt(0, -5000), pt(70_000, -5000), 90*deg, 90*deg, 70_000), api.OK},
		{entry("CF A/00 090000000", pt(0, -5000), zero), gap(), api.Track{}, api.ErrGeom},
		{entry("CF A/00 090000000", pt(-1, 0), zero), gap(), api.Track{}, api.ErrGeom},
		{entry("CF A/00 090000000", pt(-1_950_000, 0), zero), gap(), api.Track{}, api.ErrRange},
		{entry("CF A/00 045000000", pt(10, -3000), zero), gap(), api.Track{}, api.ErrGeom},
		// Arcs.
		{entry("RF A/00 @C/00 L r1", pt(6000, 6000), pt(0, 6000)), gap(), api.Track{Kind: api.CurvedTrack, A: zero, B: pt(6000, 6000), Circle: arc, In: 90 * deg, Out: 0, Length: 9425}, api.OK},
		{entry("AF A/00 @C/00 L r0+5940", pt(6000, 6000), pt(0, 6000)), gap(), api.Track{Kind: api.CurvedTrack, A: zero, B: pt(6000, 6000), Circle: arc, In: 90 * deg, Out: 0, Length: 9425}, api.OK},
		{entry("AF A/00 @C/00 L r0+5939", pt(6000, 6000), pt(0, 6000)), gap(), api.Track{}, api.ErrGeom},
		{entry("RF A/00 @C/00 L r1+61", pt(6000, 6000), pt(0, 6000)), gap(), api.Track{}, api.ErrGeom},
		{entry("RF A/00 @C/00 L r1+60", pt(6000, 6000), pt(0, 6000)), gap(), api.Track{Kind: api.CurvedTrack, A: zero, B: pt(6000, 6000), Circle: arc, In: 90 * deg, Out: 0, Length: 9425}, api.OK},
		{entry("RF A/00 @C/00 L r1", pt(6009, 6000), pt(0, 6000)), gap(), api.Track{}, api.ErrGeom},
		{entry("RF A/00 @C/00 R r1", zero, zero), gap(), api.Track{}, api.ErrGeom},
		// Climbs: 200 feet a mile from 1,000 ft.
		{entry("CA 090000000 3000+", zero, zero), gap(), straightTrack(zero, pt(60_000, 0), 90*deg, 90*deg, 60_000), api.OK},
		{entry("CA 090000000 1000.01", zero, zero), gap(), straightTrack(zero, pt(1, 0), 90*deg, 90*deg, 1), api.OK},
		{entry("CA 090000000 1000", zero, zero), gap(), straightTrack(zero, zero, 90*deg, 90*deg, 0), api.OK},
		{entry("CA 090000000 500", zero, zero), gap(), straightTrack(zero, zero, 90*deg, 90*deg, 0), api.OK},
		{entry("CA 090000000 60000", zero, zero), gap(), straightTrack(zero, pt(1_770_000, 0), 90*deg, 90*deg, 1_770_000), api.OK},
		{entry("FA A/00 180000000 3000", pt(7, 8), zero), gap(), straightTrack(pt(7, 8), pt(7, -59_992), 180*deg, 180*deg, 60_000), api.OK},
		// FC, FM, CD, CR.
		{entry("FC A/00 270000000 d12", pt(7, 8), zero), gap(), straightTrack(pt(7, 8), pt(-71_993, 8), 270*deg, 270*deg, 72_000), api.OK},
		{entry("FM A/00 000000000", pt(7, 8), zero), gap(), api.Track{Kind: api.OpenTrack, A: pt(7, 8), B: pt(7, 300_008), Length: 300_000}, api.OK},
		{entry("FM A/00 000000000", pt(0, 1_700_001), zero), gap(), api.Track{}, api.ErrRange},
		{entry("CD @C/00 000000000 d1", zero, pt(0, 50_000)), gap(), straightTrack(zero, pt(0, 44_000), 0, 0, 44_000), api.OK},
		{entry("CD @C/00 000000000 d1", zero, pt(0, 3000)), gap(), straightTrack(zero, pt(0, 9000), 0, 0, 9000), api.OK},
		{entry("CD @C/00 000000000 d1", zero, pt(0, 6000)), gap(), straightTrack(zero, zero, 0, 0, 0), api.OK},
		{entry("CD @C/00 000000000 d1", zero, pt(0, -6000)), gap(), straightTrack(zero, zero, 0, 0, 0), api.OK},
		{entry("CD @C/00 000000000 d1", zero, pt(0, -6001)), gap(), api.Track{}, api.ErrGeom},
		{entry("CD @C/00 000000000 d0+5000", zero, pt(3000, 50_000)), gap(), straightTrack(zero, pt(0, 46_000), 0, 0, 46_000), api.OK},
		{entry("CD @C/00 000000000 d1", zero, pt(6000, 50_000)), gap(), straightTrack(zero, pt(0, 50_000), 0, 0, 50_000), api.OK},
		{entry("CD @C/00 000000000 d1", zero, pt(-6001, 50_000)), gap(), api.Track{}, api.ErrGeom},
		{entry("CR @C/00 000000000 t270000000", zero, pt(30_000, 50_000)), gap(), straightTrack(zero, pt(0, 50_000), 0, 0, 50_000), api.OK},
		{entry("CR @C/00 000000000 t090000000", zero, pt(30_000, 50_000)), gap(), api.Track{}, api.ErrGeom},
		{entry("CR @C/00 000000000 t270000000", zero, pt(30_000, -50)), gap(), api.Track{}, api.ErrGeom},
		{entry("CR @C/00 000000000 t000000000", zero, pt(30_000, -50)), gap(), api.Track{}, api.ErrGeom},
		{entry("CR @C/00 000000000 t270000000", zero, pt(-1_990_000, 50_000)), gap(), api.Track{}, api.ErrRange},
		{entry("CR @C/00 000000000 t359000000", zero, pt(1_900_000, 50_000)), gap(), api.Track{}, api.ErrRange},
		// CI.
		{entry("CI 000000000", zero, zero), entry("CF A/00 090000000", pt(80_000, 50_000), zero), straightTrack(zero, pt(0, 50_000), 0, 0, 50_000), api.OK},
		{entry("CI 000000000", zero, zero), entry("CF A/00 270000000", pt(80_000, 50_000), zero), api.Track{}, api.ErrGeom},
		{entry("CI 000000000", zero, zero), entry("CF A/00 270000000", pt(0, 50_000), zero), api.Track{}, api.ErrGeom},
		{entry("CI 000000000", zero, zero), entry("CF A/00 090000000", pt(80_000, -50_000), zero), api.Track{}, api.ErrGeom},
		{entry("CI 000000000", zero, zero), entry("CF A/00 000000000", pt(80_000, 50_000), zero), api.Track{}, api.ErrGeom},
		{entry("CI 000000000", zero, zero), entry("TF A/00", pt(80_000, 50_000), zero), api.Track{}, api.ErrGeom},
		{entry("CI 000000000", zero, zero), gap(), api.Track{}, api.ErrGeom},
		{entry("CI 000000000", zero, zero), entry("CF A/00 090000000", pt(-1_990_000, 50_000), zero), api.Track{}, api.ErrRange},
		// Patterns.
		{entry("HM A/00 R 160000000 d5", pt(7, 8), zero), gap(), api.Track{Kind: api.PatternTrack, A: pt(7, 8), B: pt(7, 8), In: 40 * deg, Out: 160 * deg}, api.OK},
		{entry("HA A/00 R 160000000 d5 5000", pt(7, 8), zero), gap(), api.Track{Kind: api.PatternTrack, A: pt(7, 8), B: pt(7, 8), In: 40 * deg, Out: 160 * deg}, api.OK},
		{entry("HF A/00 L 160000000 d5", pt(7, 8), zero), gap(), api.Track{Kind: api.PatternTrack, A: pt(7, 8), B: pt(7, 8), In: 40 * deg, Out: 160 * deg}, api.OK},
		{entry("PI A/00 L 200000000 d5", pt(7, 8), zero), gap(), api.Track{Kind: api.PatternTrack, A: pt(7, 8), B: pt(7, 8), In: 40 * deg, Out: 20 * deg}, api.OK},
	} {
		got, e := Resolve(zero, 40*deg, 100_000, c.x, c.next, options())
		if got != c.want || e != c.e {
			t.Errorf("case %d, %s: %+v, %v", i, leg.Text(c.x.Leg), got, e)
		}
	}
	slow := options()
	slow.Gradient = 1
	if got, e := Resolve(zero, 0, 0, entry("CA 000000000 60000", zero, zero), gap(), slow); got != (api.Track{}) || e != api.ErrRange {
		t.Errorf("a climb without an end: %v, %v", got, e)
	}
}

// P25.2: the errors ahead of those of the types.
func TestResolveErrors(t *testing.T) {
	good := entry("TF A/00", pt(1, 1), pt(0, 0))
	bad := good
	bad.Leg.Course = 1
	far, mid := good, good
	far.End.X, mid.Mid.Y = 2_000_001, math.MinInt64
	for i, c := range []struct {
		from        api.Point
		course, alt int64
		x           api.Entry
		o           api.Options
		want        api.Errno
	}{
		{pt(2_000_001, 0), -1, 0, gap(), api.Options{}, api.ErrRange},
		{pt(2_000_001, 0), -1, 0, gap(), options(), api.ErrType},
		{pt(2_000_001, 0), -1, 0, bad, options(), api.ErrArg},
		{pt(2_000_001, 0), -1, 0, good, options(), api.ErrArg},
		{pt(0, 0), -1, 0, far, options(), api.ErrArg},
		{pt(0, 0), -1, 0, mid, options(), api.ErrArg},
		{pt(0, 0), -1, 0, good, options(), api.ErrRange},
		{pt(0, 0), api.Circle, 0, good, options(), api.ErrRange},
		{pt(0, 0), 0, api.MinAlt - 1, good, options(), api.ErrRange},
		{pt(0, 0), 0, api.MaxAlt + 1, good, options(), api.ErrRange},
		{pt(0, 0), api.Circle - 1, api.MaxAlt, good, options(), api.OK},
	} {
		if got, e := Resolve(c.from, c.course, c.alt, c.x, gap(), c.o); e != c.want || e != api.OK && got != (api.Track{}) {
			t.Errorf("case %d: %v, %v, want %v", i, got, e, c.want)
		}
	}
	noSpeed := entry("TF A/00", pt(1, 1), pt(0, 0))
	noSpeed.Leg.Speed = 1001
	if _, e := Resolve(pt(2_000_001, 0), 0, 0, noSpeed, gap(), options()); e != api.ErrRange {
		t.Errorf("the leg goes ahead of the points: %v", e)
	}
}

func planOf(active int, l ...api.Entry) api.Plan { return api.Plan{Active: active, Entries: l} }

// P25.3
func TestTracks(t *testing.T) {
	zero := pt(0, 0)
	p := planOf(-1,
		entry("IF A/00", pt(0, 10_000), zero),
		entry("CA 000000000 3000", zero, zero),
		entry("CA 090000000 5000", zero, zero),
		entry("DF B/00", pt(0, 0), zero),
		gap(),
		entry("CF C/00 045000000", pt(5, 5), zero),
		entry("HA C/00 R 000000000 d5 7000", pt(5, 5), zero),
		entry("FA C/00 270000000 8000", pt(5, 5), zero),
		gap(),
		entry("IF D/00", pt(9, 9), zero),
		entry("PI D/00 R 090000000 d5", pt(9, 9), zero),
		entry("CA 000000000 8000", zero, zero),
	)
	d := line.Dist(pt(60_000, 70_000), zero)
	back, _ := line.Course(pt(60_000, 70_000), zero)
	with := func(x api.Track, i int, g bool) api.Track {
		x.Entry, x.Gap = i, g
		return x
	}
	want := []api.Track{
		with(straightTrack(pt(0, 10_000), pt(0, 10_000), 7, 7, 0), 0, false),
		with(straightTrack(pt(0, 10_000), pt(0, 70_000), 0, 0, 60_000), 1, false),
		with(straightTrack(pt(0, 70_000), pt(60_000, 70_000), 90*deg, 90*deg, 60_000), 2, false),
		with(straightTrack(pt(60_000, 70_000), zero, back, back, d), 3, false),
		with(straightTrack(pt(5, 5), pt(5, 5), 45*deg, 45*deg, 0), 5, true),
		with(api.Track{Kind: api.PatternTrack, A: pt(5, 5), B: pt(5, 5), In: 45 * deg, Out: 0}, 6, false),
		with(straightTrack(pt(5, 5), pt(-29_995, 5), 270*deg, 270*deg, 30_000), 7, false),
		with(straightTrack(pt(9, 9), pt(9, 9), 270*deg, 270*deg, 0), 9, true),
		with(api.Track{Kind: api.PatternTrack, A: pt(9, 9), B: pt(9, 9), In: 270 * deg, Out: 270 * deg}, 10, false),
		with(straightTrack(pt(9, 9), pt(9, 9), 0, 0, 0), 11, false),
	}
	got, at, e := Tracks(p, pt(1, 2), 7, options())
	if !slices.Equal(got, want) || at != 0 || e != api.OK {
		t.Errorf("%v, %d, %v", got, at, e)
		for i := range got {
			if i < len(want) && got[i] != want[i] {
				t.Errorf("track %d: %+v\nwant %+v", i, got[i], want[i])
			}
		}
	}
	// From the active leg on; the gap ahead of it does not count.
	p.Active = 5
	got, at, e = Tracks(p, pt(-20_000, -20_000), 7, options())
	if e != api.OK || at != 0 || len(got) != 6 || got[0].Gap || got[0].A != pt(-20_000, -20_000) || got[0].Entry != 5 || got[0].Length != 28_291 {
		t.Errorf("from the active leg on: %v, %d, %v", got, at, e)
	}
	// A CI sees the leg behind it.
	ci := planOf(0, entry("IF A/00", zero, zero), entry("CI 000000000", zero, zero), entry("CF B/00 090000000", pt(80_000, 50_000), zero))
	got, _, e = Tracks(ci, pt(1, 1), 0, options())
	if e != api.OK || len(got) != 3 || got[1].B != pt(0, 50_000) || got[2].A != pt(0, 50_000) {
		t.Errorf("an intercept: %v, %v", got, e)
	}
	if got, at, e := Tracks(planOf(-1), pt(0, 0), 0, options()); len(got) != 0 || at != 0 || e != api.OK {
		t.Errorf("an empty plan: %v, %d, %v", got, at, e)
	}
}

// P25.3
func TestTracksErrors(t *testing.T) {
	zero := pt(0, 0)
	good := planOf(-1, entry("IF A/00", zero, zero), entry("CI 000000000", zero, zero), entry("CF B/00 270000000", pt(80_000, 50_000), zero))
	for i, c := range []struct {
		p      api.Plan
		from   api.Point
		course int64
		o      api.Options
		at     int
		want   api.Errno
	}{
		{api.Plan{Active: 5}, pt(2_000_001, 0), -1, api.Options{}, 0, api.ErrRange},
		{api.Plan{From: "x", Active: -1}, zero, 0, api.Options{}, 0, api.ErrName},
		{good, pt(2_000_001, 0), -1, options(), 0, api.ErrArg},
		{good, zero, -1, options(), 0, api.ErrRange},
		{good, zero, api.Circle, options(), 0, api.ErrRange},
		{good, zero, 0, options(), 1, api.ErrGeom},
		{planOf(-1, good.Entries[0], good.Entries[1]), zero, 0, options(), 1, api.ErrGeom},
		{planOf(2, good.Entries...), pt(0, 50_000), 0, options(), 2, api.ErrGeom},
	} {
		if got, at, e := Tracks(c.p, c.from, c.course, c.o); len(got) != 0 || at != c.at || e != c.want {
			t.Errorf("case %d: %v, %d, %v", i, got, at, e)
		}
	}
}

// P25.4
func TestChain(t *testing.T) {
	texts := []string{"TF A/00", "TF B/00", "DF C/00", "CF D/00 045000000", "CA 090000000 9000", "CD @C/00 000000000 d9", "CR @C/00 200000000 t100000000", "FA A/00 000000000 9000", "FC B/00 090000000 d5", "HM A/00 R 000000000 d5", "HA B/00 L 090000000 d5 9000", "PI C/00 R 000000000 d5", "GAP", "IF D/00"}
	x := uint64(5)
	next := func(n int) int {
		x = x*6364136223846793005 + 1442695040888963407
		return int(x>>33) % n
	}
	points := map[byte]api.Point{'A': pt(0, 0), 'B': pt(70_000, 10_000), 'C': pt(30_000, -90_000), 'D': pt(-90_000, 120_000)}
	count := 0
	for range 30_000 {
		l := []api.Entry{entry("IF A/00", points['A'], pt(0, 0))}
		for range 4 {
			text := texts[next(len(texts))]
			if text == "GAP" {
				l = append(l, gap())
				continue
			}
			e := entry(text, pt(0, 0), pt(0, 0))
			if e.Leg.Fix != "" {
				e.End = points[e.Leg.Fix[0]]
			}
			if e.Leg.Center != "" {
				e.Mid = points[e.Leg.Center[0]]
			}
			l = append(l, e)
		}
		tracks, _, e := Tracks(planOf(-1, l...), pt(5, 5), 0, options())
		if e != api.OK {
			continue
		}
		count++
		for i, tr := range tracks {
			leg1 := l[tr.Entry].Leg
			switch {
			case i == 0 || tr.Gap || leg1.Type == api.CF:
			case leg.From(leg1.Type):
				if tr.A != l[tr.Entry].End {
					t.Fatalf("%v does not begin at its fix", tr)
				}
			case tr.A != tracks[i-1].B:
				t.Fatalf("%v does not begin at %v", tr, tracks[i-1].B)
			}
			if tr.Kind == api.CurvedTrack && tr.Length != turn.Length(tr.Circle) {
				t.Fatalf("%v", tr)
			}
		}
	}
	if count < 300 {
		t.Errorf("only %d plans", count)
	}
}
