package airway

import (
	"fmt"
	"math"
	"reflect"
	"slices"
	"testing"

	"flightdeck/api"
	"flightdeck/sphere"
)

// P15.4
func TestNextReach(t *testing.T) {
	l := []api.Airway{v1(), {Name: "V2", Points: []api.AirwayPoint{via("B/K1", win(1, 2), 2), via("D/K1", free(), 0)}}}
	got, e := Next(l, "B/K1")
	want := []api.Hop{{Airway: "V1", To: "C/K1", Alt: free()}, {Airway: "V1", To: "A/K1", Alt: win(500_000, api.MaxAlt)}}
	if !slices.Equal(got, want) || e != api.OK {
		t.Errorf("Next at B: %v, %v", got, e)
	}
	if got, e := Next(l, "D/K1"); !slices.Equal(got, []api.Hop{{Airway: "V2", To: "B/K1", Alt: win(1, 2)}}) || e != api.OK {
		t.Errorf("Next at D: %v, %v", got, e)
	}
	if got, e := Next(l, "X"); len(got) != 0 || e != api.OK {
		t.Errorf("Next at X: %v, %v", got, e)
	}
	for ref, want := range map[string][]string{"A/K1": {"A/K1", "B/K1", "C/K1"}, "C/K1": {"C/K1"}, "D/K1": {"A/K1", "B/K1", "C/K1", "D/K1"}, "X": {"X"}, "": {""}} {
		if got, e := Reach(l, ref); !slices.Equal(got, want) || e != api.OK {
			t.Errorf("Reach at %s: %v, %v", ref, got, e)
		}
	}
	bad := v1()
	bad.Name = "x"
	many := make([]api.Airway, 61)
	for i := range many {
		many[i] = v1()
	}
	for _, c := range []struct {
		l    []api.Airway
		want api.Errno
	}{{[]api.Airway{v1(), bad, long(1)}, api.ErrName}, {[]api.Airway{v1(), long(1), bad}, api.ErrArg}, {append(many, bad), api.ErrLimit}, {many[:60], api.OK}} {
		hops, e := Next(c.l, "A/K1")
		refs, f := Reach(c.l, "A/K1")
		_, g := Shortest(c.l, nil, "", "")
		h := CheckWay(c.l, nil, "", "", api.Way{})
		if c.want == api.OK {
			if len(hops) != 60 || len(refs) != 3 || e != api.OK || f != api.OK || g != api.ErrNone || h != api.ErrNone {
				t.Errorf("60 airways: %d, %v, %v, %v, %v, %v", len(hops), refs, e, f, g, h)
			}
		} else if len(hops)+len(refs) != 0 || e != c.want || f != c.want || g != c.want || h != c.want {
			t.Errorf("want %v: %v, %v, %v, %v", c.want, e, f, g, h)
		}
	}
}

func place(name string, lat, lon int64) api.Fix {
	return api.Fix{Ident: name, Region: "K1", Kind: api.Waypoint, Pos: api.Pos{Lat: lat, Lon: lon}}
}

// lattice has fixes on a small lattice (so that lengths are often equal) and airways across it in all directions.
func lattice(seed int) ([]api.Airway, []api.Fix) {
	var fixes []api.Fix
	for i := range 16 {
		fixes = append(fixes, place(fmt.Sprintf("F%c", 'A'+i), int64(i/4)*6000, int64(i%4)*6000))
	}
	fixes = append(fixes, place("FA", 900_000, 0), place("FZ", 0, 0), place("FQ", 600, 600))
	var l []api.Airway
	x := uint64(seed)
	next := func(n int) int {
		x = x*6364136223846793005 + 1442695040888963407
		return int(x>>33) % n
	}
	for k := range 6 {
		a := api.Airway{Name: fmt.Sprintf("V%d", k)}
		for range 2 + next(5) {
			ref := fmt.Sprintf("F%c/K1", 'A'+next(16))
			if next(9) == 0 {
				ref = "FZ/K1"
			}
			if Index(a, ref) < 0 {
				a.Points = append(a.Points, via(ref, win(int64(k), int64(k+next(3))), byte(next(3))))
			}
		}
		if len(a.Points) < 2 {
			continue
		}
		a.Points[len(a.Points)-1] = via(a.Points[len(a.Points)-1].Ref, free(), 0)
		l = append(l, a)
	}
	return l, fixes
}

func positionOf(fixes []api.Fix, ref string) api.Pos {
	for _, f := range fixes {
		if f.Ident+"/"+f.Region == ref {
			return f.Pos
		}
	}
	return api.Pos{}
}

// relax computes the least {length, hops} of all fixes by repeated rounds.
func relax(l []api.Airway, fixes []api.Fix, from string) map[string][2]int64 {
	best := map[string][2]int64{from: {}}
	for changed := true; changed; {
		changed = false
		for _, f := range fixes {
			ref := f.Ident + "/" + f.Region
			b, ok := best[ref]
			if !ok {
				continue
			}
			hops, _ := Next(l, ref)
			for _, h := range hops {
				d, _ := sphere.Dist(positionOf(fixes, ref), positionOf(fixes, h.To))
				n := [2]int64{b[0] + d, b[1] + 1}
				old, ok := best[h.To]
				if !ok || n[0] < old[0] || n[0] == old[0] && n[1] < old[1] {
					best[h.To] = n
					changed = true
				}
			}
		}
	}
	return best
}

// backwards finds the way from its end, as the chapter tells it.
func backwards(l []api.Airway, fixes []api.Fix, best map[string][2]int64, to string) []api.Hop {
	var way []api.Hop
	refs := []string{}
	for ref := range best {
		refs = append(refs, ref)
	}
	slices.Sort(refs)
	for best[to][1] > 0 {
	search:
		for _, ref := range refs {
			hops, _ := Next(l, ref)
			for _, h := range hops {
				d, _ := sphere.Dist(positionOf(fixes, ref), positionOf(fixes, to))
				if h.To == to && best[ref] == [2]int64{best[to][0] - d, best[to][1] - 1} {
					way = append([]api.Hop{h}, way...)
					to = ref
					break search
				}
			}
		}
	}
	return way
}

// P15.5, P15.6
func TestShortest(t *testing.T) {
	reached := 0
	for seed := range 60 {
		l, fixes := lattice(seed)
		for _, from := range []string{"FA/K1", "FF/K1", "FK/K1", "FQ/K1"} {
			best := relax(l, fixes, from)
			reach, _ := Reach(l, from)
			for _, f := range fixes {
				to := f.Ident + "/K1"
				w, e := Shortest(l, fixes, from, to)
				b, ok := best[to]
				if !ok {
					if e != api.ErrGeom || !reflect.DeepEqual(w, api.Way{}) {
						t.Fatalf("seed %d, %s to %s: %v, %v", seed, from, to, w, e)
					}
					continue
				}
				reached++
				if e != api.OK || w.Length != b[0] || !slices.Equal(w.Hops, backwards(l, fixes, best, to)) || int64(len(w.Hops)) != b[1] {
					t.Fatalf("seed %d, %s to %s: %v, %v, want %v", seed, from, to, w, e, b)
				}
				if len(w.Labels) != len(reach) {
					t.Fatalf("seed %d: labels %v, reach %v", seed, w.Labels, reach)
				}
				for i, label := range w.Labels {
					if want := best[label.Ref]; label.Ref != reach[i] || label.Length != want[0] || label.Hops != want[1] {
						t.Fatalf("seed %d: label %v, want %v", seed, label, want)
					}
				}
				if e := CheckWay(l, fixes, from, to, w); e != api.OK {
					t.Fatalf("seed %d: CheckWay %v", seed, e)
				}
			}
		}
	}
	if reached < 500 {
		t.Errorf("only %d ways", reached)
	}
}

// P15.5: the errors ahead of the search.
func TestShortestErrors(t *testing.T) {
	l := []api.Airway{v1()}
	a, b, c := place("A", 0, 0), place("B", 0, 6000), place("C", 0, 12_000)
	away := place("B", api.Quarter+1, 0)
	for i, k := range []struct {
		fixes    []api.Fix
		from, to string
		want     api.Errno
	}{
		{[]api.Fix{a, b, c}, "A/K1", "C/K1", api.OK},
		{[]api.Fix{a, b, c}, "A/K1", "A/K1", api.OK},
		{[]api.Fix{a, b, c}, "C/K1", "A/K1", api.ErrGeom},
		{[]api.Fix{a, b, c}, "A/K1", "D/K1", api.ErrNone},
		{[]api.Fix{a, b, c}, "D/K1", "A/K1", api.ErrNone},
		{[]api.Fix{a, c}, "A/K1", "C/K1", api.ErrNone},
		{[]api.Fix{a, away, b, c}, "A/K1", "C/K1", api.ErrArg},
		{[]api.Fix{a, b, away, c}, "A/K1", "C/K1", api.OK},
		{make([]api.Fix, 401), "A/K1", "C/K1", api.ErrLimit},
		{append(make([]api.Fix, 397), a, b, c), "A/K1", "C/K1", api.OK},
	} {
		w, e := Shortest(l, k.fixes, k.from, k.to)
		if e != k.want || e != api.OK && !reflect.DeepEqual(w, api.Way{}) {
			t.Errorf("case %d: %v, %v", i, w, e)
		}
		f := CheckWay(l, k.fixes, k.from, k.to, w)
		if e == api.ErrGeom {
			e = api.ErrForm // no labels
		}
		if f != e {
			t.Errorf("case %d: CheckWay %v, want %v", i, f, e)
		}
	}
	if w, e := Shortest(l, []api.Fix{a, b, c}, "A/K1", "A/K1"); len(w.Hops) != 0 || w.Length != 0 || len(w.Labels) != 3 || e != api.OK {
		t.Errorf("from A to A: %v, %v", w, e)
	}
}

// P15.6
func TestCheckWay(t *testing.T) {
	l := []api.Airway{v1(), {Name: "V2", Points: []api.AirwayPoint{via("A/K1", free(), 0), via("C/K1", free(), 0)}}}
	fixes := []api.Fix{place("A", 0, 0), place("B", 6000, 6000), place("C", 0, 12_000), place("D", 0, 0)}
	good, e := Shortest(l, fixes, "A/K1", "C/K1")
	if e != api.OK || len(good.Hops) != 1 || len(good.Labels) != 3 || good.Length != 12_000 {
		t.Fatalf("%v, %v", good, e)
	}
	for i, c := range []struct {
		change func(w *api.Way)
		want   api.Errno
	}{
		{func(w *api.Way) {}, api.OK},
		{func(w *api.Way) { w.Labels[1].Hops = -77 }, api.OK},
		{func(w *api.Way) { w.Labels[0], w.Labels[1] = w.Labels[1], w.Labels[0] }, api.ErrForm},
		{func(w *api.Way) { w.Labels = append(w.Labels, w.Labels[2]) }, api.ErrForm},
		{func(w *api.Way) { w.Labels = w.Labels[1:] }, api.ErrForm},
		{func(w *api.Way) { w.Labels = nil }, api.ErrForm},
		{func(w *api.Way) { w.Labels[0].Length = 1 }, api.ErrForm},
		{func(w *api.Way) { w.Labels[0].Length = -1 }, api.ErrForm},
		{func(w *api.Way) { w.Labels = w.Labels[:2] }, api.ErrOrder},
		{func(w *api.Way) { w.Labels[1].Length++ }, api.ErrOrder},
		{func(w *api.Way) { w.Labels[2].Length++ }, api.ErrOrder},
		{func(w *api.Way) { w.Labels[1].Length = math.MaxInt64 }, api.ErrOrder},
		{func(w *api.Way) { w.Labels = append(w.Labels, api.Label{Ref: "X", Length: math.MinInt64}) }, api.OK},
		{func(w *api.Way) { w.Hops[0].Alt.Lo++ }, api.ErrNone},
		{func(w *api.Way) { w.Hops[0].Airway = "V9" }, api.ErrNone},
		{func(w *api.Way) { w.Hops = nil }, api.ErrNone},
		{func(w *api.Way) { w.Hops = append(w.Hops, w.Hops[0]) }, api.ErrNone},
		{func(w *api.Way) { w.Hops[0] = api.Hop{Airway: "V1", To: "B/K1", Alt: win(500_000, api.MaxAlt)} }, api.ErrNone},
		{func(w *api.Way) { w.Length++ }, api.ErrArg},
		{func(w *api.Way) { w.Length = math.MinInt64 }, api.ErrArg},
		{func(w *api.Way) { // a longer way, with its true length
			w.Hops = []api.Hop{{Airway: "V1", To: "B/K1", Alt: win(500_000, api.MaxAlt)}, {Airway: "V1", To: "C/K1", Alt: free()}}
			w.Length = 2 * 8485
		}, api.ErrConflict},
		{func(w *api.Way) { w.Labels[1].Length, w.Labels[2].Length = 0, 0 }, api.ErrConflict},
	} {
		w := api.Way{Hops: slices.Clone(good.Hops), Length: good.Length, Labels: slices.Clone(good.Labels)}
		c.change(&w)
		if e := CheckWay(l, fixes, "A/K1", "C/K1", w); e != c.want {
			t.Errorf("case %d: %v, want %v", i, e, c.want)
		}
	}
	// The labels need not be those of Shortest: lesser ones prove less, but contradict nothing but the length.
	less := api.Way{Hops: slices.Clone(good.Hops), Length: good.Length, Labels: []api.Label{{Ref: "A/K1"}, {Ref: "B/K1", Length: 1}, {Ref: "C/K1", Length: 2}}}
	if e := CheckWay(l, fixes, "A/K1", "C/K1", less); e != api.ErrConflict {
		t.Errorf("lesser labels: %v", e)
	}
	if e := CheckWay(l, fixes, "D/K1", "D/K1", api.Way{Labels: []api.Label{{Ref: "D/K1"}}}); e != api.OK {
		t.Errorf("a fix off all airways: %v", e)
	}
}
