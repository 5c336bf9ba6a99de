package windgrid

import (
	"math"
	"reflect"
	"slices"
	"strings"
	"testing"

	"flightdeck/api"
	"flightdeck/wind"
)

func pt(x, y int64) api.Point { return api.Point{X: x, Y: y} }

func wi(east, north int64) api.Wind { return api.Wind{East: east, North: north} }

// row is the chapter's example.
func row() api.Grid {
	return api.Grid{Cell: 10, NX: 2, NY: 1, Alts: []int64{0}, Winds: []api.Wind{wi(0, 0), wi(10, -10)}, Devs: []int64{-7, 100}, Err: 3}
}

// cube has 4 * 3 points at three levels.
func cube() api.Grid {
	g := api.Grid{Corner: pt(-700, 300), Cell: 1000, NX: 4, NY: 3, Alts: []int64{-1000, 500_000, 500_333}, Err: 60}
	for i := range int64(36) {
		g.Winds = append(g.Winds, wi(i*i*37%681-340, i*i*i*53%681-340))
		g.Devs = append(g.Devs, i*i*i*977%8001-4000)
	}
	return g
}

// P36.1
func TestCheck(t *testing.T) {
	for i, c := range []struct {
		change func(g *api.Grid)
		want   api.Errno
	}{
		{func(g *api.Grid) {}, api.OK},
		{func(g *api.Grid) { g.NX = 0; g.Cell = 0 }, api.ErrLimit}, {func(g *api.Grid) { g.NX = 17 }, api.ErrLimit}, {func(g *api.Grid) { g.NY = 0 }, api.ErrLimit}, {func(g *api.Grid) { g.NY = 17 }, api.ErrLimit}, {func(g *api.Grid) { g.NX = math.MaxInt; g.NY = math.MaxInt }, api.ErrLimit}, {func(g *api.Grid) { g.Alts = nil }, api.ErrLimit}, {func(g *api.Grid) { g.Alts = make([]int64, 9) }, api.ErrLimit},
		{func(g *api.Grid) { g.NX = 3; g.Cell = 0 }, api.ErrArg}, {func(g *api.Grid) { g.Winds = g.Winds[1:] }, api.ErrArg}, {func(g *api.Grid) { g.Devs = append(g.Devs, 0) }, api.ErrArg},
		{func(g *api.Grid) { g.Corner.X = 2_000_001; g.Alts[1] = g.Alts[0] }, api.ErrRange}, {func(g *api.Grid) { g.Corner.Y = -2_000_001 }, api.ErrRange}, {func(g *api.Grid) { g.Cell = 0 }, api.ErrRange}, {func(g *api.Grid) { g.Cell = 2_000_001 }, api.ErrRange}, {func(g *api.Grid) { g.Cell = 2_000_000 }, api.OK},
		{func(g *api.Grid) { g.Alts[0] = api.MinAlt - 1 }, api.ErrRange}, {func(g *api.Grid) { g.Alts[2] = api.MaxAlt + 1 }, api.ErrRange}, {func(g *api.Grid) { g.Alts[0], g.Alts[2] = api.MinAlt, api.MaxAlt }, api.OK},
		{func(g *api.Grid) { g.Err = -1 }, api.ErrRange}, {func(g *api.Grid) { g.Err = 61 }, api.ErrRange},
		{func(g *api.Grid) { g.Winds[5].East = 341 }, api.ErrRange}, {func(g *api.Grid) { g.Winds[35].North = -341 }, api.ErrRange}, {func(g *api.Grid) { g.Winds[35] = wi(-340, 340) }, api.OK}, {func(g *api.Grid) { g.Devs[0] = 4001 }, api.ErrRange}, {func(g *api.Grid) { g.Devs[35] = -4001 }, api.ErrRange},
		{func(g *api.Grid) { g.Alts[1] = g.Alts[0] }, api.ErrOrder}, {func(g *api.Grid) { g.Alts[2] = 499_999 }, api.ErrOrder},
	} {
		g := cube()
		c.change(&g)
		if e := Check(g); e != c.want {
			t.Errorf("case %d: %v, want %v", i, e, c.want)
		}
		if s, e := Text(g); e != c.want || c.want != api.OK && s != "" {
			t.Errorf("case %d: Text %v", i, e)
		}
		if c.want == api.OK {
			continue
		}
		w, d, e := At(g, pt(2_000_001, 0), 0)
		b, x, f := Hull(g, pt(2_000_001, 0), pt(0, 0), api.Window{})
		if w != (api.Wind{}) || d != 0 || e != c.want || b != (api.WindBox{}) || x != (api.Interval{}) || f != c.want {
			t.Errorf("case %d: At %v, Hull %v", i, e, f)
		}
	}
}

// P36.2
func TestCalm(t *testing.T) {
	for _, err := range []int64{0, 7, 60} {
		g, e := Calm(err)
		want := api.Grid{Cell: 1, NX: 1, NY: 1, Alts: []int64{0}, Winds: []api.Wind{{}}, Devs: []int64{0}, Err: err}
		if !reflect.DeepEqual(g, want) || e != api.OK || Check(g) != api.OK {
			t.Errorf("Calm(%d) = %v, %v", err, g, e)
		}
		if w, d, e := At(g, pt(-5, 99), 77); w != (api.Wind{}) || d != 0 || e != api.OK {
			t.Errorf("At: %v, %d, %v", w, d, e)
		}
	}
	for _, err := range []int64{-1, 61, math.MinInt64} {
		if g, e := Calm(err); !reflect.DeepEqual(g, api.Grid{}) || e != api.ErrRange {
			t.Errorf("Calm(%d) = %v, %v", err, g, e)
		}
	}
}

// floorDiv rounds down.
func floorDiv(a, b int64) int64 { return int64(math.Floor(float64(a) / float64(b))) }

// mix is the value between two.
func mix(u, v, f, c int64) int64 {
	if f == 0 {
		return u
	}
	return u + floorDiv((v-u)*f, c)
}

// locate is the place of a coordinate, as the chapter tells it.
func locate(places []int64, v int64) (i int, f, c int64) {
	v = max(places[0], min(v, places[len(places)-1]))
	for k := 0; k <= len(places)-2; k++ {
		if places[k] <= v {
			i = k
		}
	}
	if len(places) == 1 {
		return 0, 0, 1
	}
	return i, v - places[i], places[i+1] - places[i]
}

func lines(corner, cell int64, n int) (l []int64) {
	for i := range n {
		l = append(l, corner+int64(i)*cell)
	}
	return l
}

// expected computes At by its definition.
func expected(g api.Grid, p api.Point, alt int64, number func(i int) int64) int64 {
	x, fx, cx := locate(lines(g.Corner.X, g.Cell, g.NX), p.X)
	y, fy, cy := locate(lines(g.Corner.Y, g.Cell, g.NY), p.Y)
	z, fz, cz := locate(g.Alts, alt)
	at := func(x, y, z int) int64 { // what does not exist does not count
		return number((min(z, len(g.Alts)-1)*g.NY+min(y, g.NY-1))*g.NX + min(x, g.NX-1))
	}
	onLine := func(y, z int) int64 { return mix(at(x, y, z), at(x+1, y, z), fx, cx) }
	onLevel := func(z int) int64 { return mix(onLine(y, z), onLine(y+1, z), fy, cy) }
	return mix(onLevel(z), onLevel(z+1), fz, cz)
}

// P36.3
func TestAt(t *testing.T) {
	flat := cube()
	flat.NX, flat.NY = 1, 12
	thin := cube()
	thin.NX, thin.NY, thin.Alts, thin.Winds, thin.Devs = 2, 1, []int64{0}, thin.Winds[:2], thin.Devs[:2]
	for _, g := range []api.Grid{cube(), flat, thin, row()} {
		for _, x := range []int64{-2_000_000, -701, -700, -699, 0, 3, 299, 300, 301, 1234, 1300, 2299, 2300, 2301, 2_000_000} {
			for _, y := range []int64{-2_000_000, 299, 300, 301, 777, 1299, 1300, 1301, 2300, 2_000_000} {
				for _, alt := range []int64{api.MinAlt, -1001, -1000, -999, 0, 123_456, 499_999, 500_000, 500_001, 500_332, 500_333, 500_334, api.MaxAlt} {
					w, d, e := At(g, pt(x, y), alt)
					want := wi(expected(g, pt(x, y), alt, func(i int) int64 { return g.Winds[i].East }), expected(g, pt(x, y), alt, func(i int) int64 { return g.Winds[i].North }))
					dev := expected(g, pt(x, y), alt, func(i int) int64 { return g.Devs[i] })
					if w != want || d != dev || e != api.OK {
						t.Fatalf("At {%d, %d}, %d: %v, %d, %v, want %v, %d", x, y, alt, w, d, e, want, dev)
					}
				}
			}
		}
	}
	for q, want := range map[api.Point]api.Wind{pt(4, 99): wi(4, -4), pt(-5, 0): wi(0, 0), pt(25, 0): wi(10, -10)} {
		if w, _, e := At(row(), q, 0); w != want || e != api.OK {
			t.Errorf("At %v: %v, %v", q, w, e)
		}
	}
	seven := row()
	seven.Cell = 7
	if w, _, _ := At(seven, pt(3, 0), 0); w != wi(4, -5) {
		t.Errorf("rounded down: %v", w)
	}
	for _, c := range []struct {
		p   api.Point
		alt int64
	}{{pt(2_000_001, 0), 0}, {pt(0, -2_000_001), 0}, {pt(0, 0), api.MinAlt - 1}, {pt(0, 0), api.MaxAlt + 1}, {pt(math.MinInt64, math.MaxInt64), math.MinInt64}} {
		if w, d, e := At(row(), c.p, c.alt); w != (api.Wind{}) || d != 0 || e != api.ErrRange {
			t.Errorf("At %v, %d: %v, %d, %v", c.p, c.alt, w, d, e)
		}
	}
}

// P36.4
func TestHull(t *testing.T) {
	b, devs, e := Hull(row(), pt(0, 0), pt(4, 0), api.Window{})
	if b != (api.WindBox{East: api.Interval{Lo: -3, Hi: 13}, North: api.Interval{Lo: -13, Hi: 3}}) || devs != (api.Interval{Lo: -7, Hi: 100}) || e != api.OK {
		t.Errorf("the chapter's example: %v, %v, %v", b, devs, e)
	}
	g := cube()
	xs, ys := lines(g.Corner.X, g.Cell, g.NX), lines(g.Corner.Y, g.Cell, g.NY)
	seed := uint64(4)
	next := func(n int64) int64 {
		seed = seed*6364136223846793005 + 1442695040888963407
		return int64(seed>>33) % n
	}
	for range 3000 {
		p, q := pt(next(5000)-1500, next(5000)-1500), pt(next(5000)-1500, next(5000)-1500)
		alts := api.Window{Lo: next(600_000) - 50_000}
		alts.Hi = alts.Lo + next(200_000)
		b, devs, e := Hull(g, p, q, alts)
		x0, _, _ := locate(xs, min(p.X, q.X))
		x1, _, _ := locate(xs, max(p.X, q.X))
		y0, _, _ := locate(ys, min(p.Y, q.Y))
		y1, _, _ := locate(ys, max(p.Y, q.Y))
		z0, _, _ := locate(g.Alts, alts.Lo)
		z1, _, _ := locate(g.Alts, alts.Hi)
		var east, north, dev []int64
		for i := range g.Winds {
			x, y, z := i%4, i/4%3, i/12
			if x >= x0 && x <= x1+1 && y >= y0 && y <= y1+1 && z >= z0 && z <= z1+1 {
				east, north, dev = append(east, g.Winds[i].East), append(north, g.Winds[i].North), append(dev, g.Devs[i])
			}
		}
		want := api.WindBox{East: api.Interval{Lo: slices.Min(east) - 60, Hi: slices.Max(east) + 60}, North: api.Interval{Lo: slices.Min(north) - 60, Hi: slices.Max(north) + 60}}
		if b != want || devs != (api.Interval{Lo: slices.Min(dev), Hi: slices.Max(dev)}) || e != api.OK || !wind.Box(b) {
			t.Fatalf("Hull of %v, %v, %v: %v, %v, %v, want %v", p, q, alts, b, devs, e, want)
		}
		in := pt(min(p.X, q.X)+next(max(p.X, q.X)-min(p.X, q.X)+1), min(p.Y, q.Y)+next(max(p.Y, q.Y)-min(p.Y, q.Y)+1))
		w, d, _ := At(g, in, alts.Lo+next(alts.Hi-alts.Lo+1))
		if d < devs.Lo || d > devs.Hi || !wind.Within(b, wi(w.East+60, w.North-60)) || !wind.Within(b, wi(w.East-60, w.North+60)) {
			t.Fatalf("%v, %d at %v are not in %v, %v", w, d, in, b, devs)
		}
	}
	for _, c := range []struct {
		a, b api.Point
		alts api.Window
	}{{pt(2_000_001, 0), pt(0, 0), api.Window{}}, {pt(0, 0), pt(0, -2_000_001), api.Window{}}, {pt(0, 0), pt(0, 0), api.Window{Lo: 1}}, {pt(0, 0), pt(0, 0), api.Window{Lo: api.MinAlt - 1}}, {pt(0, 0), pt(0, 0), api.Window{Hi: api.MaxAlt + 1}}} {
		if b, x, e := Hull(g, c.a, c.b, c.alts); b != (api.WindBox{}) || x != (api.Interval{}) || e != api.ErrRange {
			t.Errorf("Hull of %v: %v, %v, %v", c, b, x, e)
		}
	}
}

// P36.5, P36.6
func TestText(t *testing.T) {
	const text = "GRID 0 0 10 2 1 3\nLEVEL 0\nWIND 0 0 -7\nWIND 10 -10 100\n"
	if s, e := Text(row()); s != text || e != api.OK {
		t.Errorf("%q, %v", s, e)
	}
	most := api.Grid{Corner: pt(-2_000_000, 2_000_000), Cell: 2_000_000, NX: 16, NY: 16}
	for z := range int64(8) {
		most.Alts = append(most.Alts, z*100_001-5)
		for i := range int64(256) {
			most.Winds = append(most.Winds, wi(i-z, -i))
			most.Devs = append(most.Devs, i*z)
		}
	}
	for _, g := range []api.Grid{row(), cube(), most} {
		s, e := Text(g)
		got, diags := Parse("#\n" + strings.ReplaceAll(s, " ", "  "))
		if !reflect.DeepEqual(got, g) || len(diags) > 0 || e != api.OK {
			t.Errorf("%v, %v, %v", got, diags, e)
		}
	}
	s, _ := Text(most)
	for bad, want := range map[string]api.Diag{" LEVEL 10000\n": {Line: 2058, Column: 2, Code: api.ErrLimit}, " LEVEL x": {Line: 2058, Column: 2, Code: api.ErrLimit}, " WIND 0 0 0": {Line: 2058, Column: 2, Code: api.ErrForm}} {
		if g, diags := Parse(s + bad); !reflect.DeepEqual(g, api.Grid{}) || !slices.Equal(diags, []api.Diag{want}) {
			t.Errorf("%q: %v", bad, diags)
		}
	}
	for s, want := range map[string]api.Diag{
		"": {Line: 1, Column: 1, Code: api.ErrForm}, "#\n\n": {Line: 1, Column: 1, Code: api.ErrForm}, "\n GRIDS": {Line: 2, Column: 2, Code: api.ErrForm}, "LEVEL 0": {Line: 1, Column: 1, Code: api.ErrForm},
		"GRID 2000001 0 10 2 1 3": {Line: 1, Column: 6, Code: api.ErrRange}, "GRID 0 -2000001 10 2 1 3": {Line: 1, Column: 8, Code: api.ErrRange}, "GRID 0 0 0 2 1 3": {Line: 1, Column: 10, Code: api.ErrRange}, "GRID 0 0 10 0 1 3": {Line: 1, Column: 13, Code: api.ErrRange}, "GRID 0 0 10 17 1 3": {Line: 1, Column: 13, Code: api.ErrRange}, "GRID 0 0 10 2 x 3": {Line: 1, Column: 15, Code: api.ErrForm}, "GRID 0 0 10 2 1 61": {Line: 1, Column: 17, Code: api.ErrRange}, "GRID 0 0 10 2 1": {Line: 1, Column: 16, Code: api.ErrForm}, "GRID 0 0 10 2 1 3 4": {Line: 1, Column: 19, Code: api.ErrForm},
		"GRID 0 0 10 2 1 3": {Line: 2, Column: 1, Code: api.ErrForm}, "GRID 0 0 10 2 1 3\n\n#\nLEVEL 0": {Line: 5, Column: 1, Code: api.ErrForm}, "GRID 0 0 10 2 1 3\nLEVEL 0\nWIND 0 0 0": {Line: 4, Column: 1, Code: api.ErrForm}, "GRID 0 0 10 2 1 3\nWIND 0 0 0": {Line: 2, Column: 1, Code: api.ErrForm},
		"GRID 0 0 10 2 1 3\nLEVEL": {Line: 2, Column: 6, Code: api.ErrForm}, "GRID 0 0 10 2 1 3\nLEVEL 60001": {Line: 2, Column: 7, Code: api.ErrRange}, "GRID 0 0 10 2 1 3\nLEVEL 5 6": {Line: 2, Column: 9, Code: api.ErrForm}, "GRID 0 0 10 2 1 3\nLEVEL 0\nLEVEL 5": {Line: 3, Column: 1, Code: api.ErrForm},
		"GRID 0 0 10 2 1 3\nLEVEL 0\nWIND 341 0 0": {Line: 3, Column: 6, Code: api.ErrRange}, "GRID 0 0 10 2 1 3\nLEVEL 0\nWIND 0 -341 0": {Line: 3, Column: 8, Code: api.ErrRange}, "GRID 0 0 10 2 1 3\nLEVEL 0\nWIND 0 0 4001": {Line: 3, Column: 10, Code: api.ErrRange}, "GRID 0 0 10 2 1 3\nLEVEL 0\nWIND 0 0": {Line: 3, Column: 9, Code: api.ErrForm}, "GRID 0 0 10 2 1 3\nLEVEL 0\nWIND 0 0 0 0": {Line: 3, Column: 12, Code: api.ErrForm},
		text + " LEVEL 0": {Line: 5, Column: 2, Code: api.ErrOrder}, text + "LEVEL -1": {Line: 5, Column: 1, Code: api.ErrOrder}, text + "LEVEL -1 5": {Line: 5, Column: 10, Code: api.ErrForm}, text + "LEVEL 1": {Line: 6, Column: 1, Code: api.ErrForm}, text + "GRID 0": {Line: 5, Column: 1, Code: api.ErrForm},
	} {
		if g, diags := Parse(s); !reflect.DeepEqual(g, api.Grid{}) || !slices.Equal(diags, []api.Diag{want}) {
			t.Errorf("Parse(%q) = %v, %v, want %v", s, g, diags, want)
		}
	}
	if g, diags := Parse("\t\n\t"); !reflect.DeepEqual(g, api.Grid{}) || len(diags) != 2 {
		t.Errorf("the diagnostics of the records: %v", diags)
	}
}
