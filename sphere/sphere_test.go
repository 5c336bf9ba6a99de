package sphere

import (
	"math"
	"testing"

	"flightdeck/api"
)

const deg = api.Degree

func positions() []api.Pos {
	return []api.Pos{{Lat: 0, Lon: 0}, {Lat: api.Quarter, Lon: 0}, {Lat: api.Quarter, Lon: 77 * deg}, {Lat: -api.Quarter, Lon: api.Half}, {Lat: 16_760_000, Lon: -43_921_500}, {Lat: 17_000_000, Lon: -43_000_000}, {Lat: -12_345_678, Lon: 64_000_001}, {Lat: 1, Lon: -1}, {Lat: 31_000_000, Lon: api.Half}, {Lat: -31_000_000, Lon: -api.Half + 1}, {Lat: api.Quarter - 1, Lon: 5}, {Lat: 16_760_300, Lon: -43_921_900}, {Lat: 0, Lon: api.Half}}
}

func invalid() []api.Pos {
	return []api.Pos{{Lat: api.Quarter + 1}, {Lat: -api.Quarter - 1}, {Lon: -api.Half}, {Lon: api.Half + 1}, {Lat: math.MaxInt64, Lon: math.MinInt64}}
}

// real returns the unit vector of a position as real numbers.
func real(p api.Pos) [3]float64 {
	lat, lon := float64(p.Lat)*math.Pi/api.Half, float64(p.Lon)*math.Pi/api.Half
	return [3]float64{math.Cos(lat) * math.Cos(lon), math.Cos(lat) * math.Sin(lon), math.Sin(lat)}
}

// realDist returns the distance of two unit vectors as a real number.
func realDist(v, w [3]float64) float64 {
	x, y, z := v[1]*w[2]-v[2]*w[1], v[2]*w[0]-v[0]*w[2], v[0]*w[1]-v[1]*w[0]
	return math.Atan2(math.Sqrt(x*x+y*y+z*z), v[0]*w[0]+v[1]*w[1]+v[2]*w[2]) * api.Half / math.Pi
}

// P9.1
func TestOf(t *testing.T) {
	for _, c := range []struct {
		p    api.Pos
		want Vector
	}{
		{api.Pos{Lat: 0, Lon: 0}, Vector{1 << 30, 0, 0}},
		{api.Pos{Lat: 32400000, Lon: 0}, Vector{0, 0, 1 << 30}},
		{api.Pos{Lat: -32400000, Lon: 64800000}, Vector{0, 0, -1073741824}},
		{api.Pos{Lat: 16760000, Lon: -43921500}, Vector{-391316481, -626135948, 779581100}},
		{api.Pos{Lat: 17000000, Lon: -43000000}, Vector{-358478841, -635045144, 788119338}},
		{api.Pos{Lat: -12345678, Lon: 64000001}, Vector{-886417272, 34396984, -604981629}},
		{api.Pos{Lat: 1, Lon: -1}, Vector{1073741824, -52, 52}},
		{api.Pos{Lat: 31000000, Lon: 64800000}, Vector{-72823117, 0, 1071269480}},
		{api.Pos{Lat: -31000000, Lon: -64799999}, Vector{-72823117, -4, -1071269480}},
		{api.Pos{Lat: 32399999, Lon: 5}, Vector{52, 0, 1073741824}},
	} {
		if v, e := Of(c.p); v != c.want || e != api.OK || !Valid(c.p) {
			t.Errorf("Of(%v) = %v, %v", c.p, v, e)
		}
	}
	for _, p := range invalid() {
		if v, e := Of(p); v != (Vector{}) || e != api.ErrArg || Valid(p) {
			t.Errorf("Of(%v) = %v, %v", p, v, e)
		}
	}
}

// P9.2
func TestPosition(t *testing.T) {
	for _, p := range positions() {
		v, _ := Of(p)
		q, e := Position(v)
		if d := realDist(real(p), real(q)); e != api.OK || d > 2 || !Valid(q) {
			t.Errorf("Position(%v) = %v, %v, %f away from %v", v, q, e, d, p)
		}
	}
	for _, c := range []struct {
		v    Vector
		want api.Pos
	}{
		{Vector{0, 0, 1}, api.Pos{Lat: api.Quarter}}, {Vector{0, 0, -5}, api.Pos{Lat: -api.Quarter}}, {Vector{-1, 0, 0}, api.Pos{Lon: api.Half}}, {Vector{0, -7, 0}, api.Pos{Lon: -api.Quarter}}, {Vector{3, 4, 5}, api.Pos{Lat: 45 * deg, Lon: 19_126_837}}, {Vector{MaxPart, -MaxPart, -MaxPart}, api.Pos{Lat: -12_695_180, Lon: -45 * deg}},
	} {
		q, e := Position(c.v)
		if e != api.OK || q != c.want {
			t.Errorf("Position(%v) = %v, %v", c.v, q, e)
		}
	}
	for _, v := range []Vector{{}, {MaxPart + 1, 0, 0}, {0, -MaxPart - 1, 0}, {1, 1, MaxPart + 1}, {math.MinInt64, 0, 0}, {0, 0, math.MaxInt64}} {
		if q, e := Position(v); q != (api.Pos{}) || e != api.ErrArg {
			t.Errorf("Position(%v) = %v, %v", v, q, e)
		}
	}
}

// pair is a case with the exact results of the algorithm.
type pair struct {
	p, q         api.Pos
	course, dist int64
	local        Vector
	d, c         int64 // c is -1 where there is no course
	along, mid   api.Pos
	off, ahead   int64
}

func pos(lat, lon int64) api.Pos { return api.Pos{Lat: lat, Lon: lon} }

func pairs() []pair {
	return []pair{
		{pos(32399999, 5), pos(17000000, -43000000), 99560964, 24060910, Vector{-635045057, 358479034, 788119321}, 15400000, 107800005, pos(8339090, -34760958), pos(24700001, -42999998), 5513403, 14560538},
		{pos(-31000000, -64799999), pos(0, 0), 112789615, 31247407, Vector{52, -1071269480, -72823117}, 33800000, 64799999, pos(-191352, 48022806), pos(-16900001, 0), -16760059, -34437672},
		{pos(16760000, -43921500), pos(0, 0), 120916817, 10526114, Vector{910543329, 413163120, -391316481}, 40094365, 23613702, pos(25224439, -56823767), pos(14431983, -15313272), 24704976, 64536534},
		{pos(32400000, 0), pos(-12345678, 64000001), 62957381, 58280388, Vector{34396984, 886417272, -604981629}, 44745678, 799998, pos(-25880389, 1842619), pos(10027160, 64000002), -2181325, -44824811},
		{pos(16760000, -43921500), pos(1, -1), 72982347, 6843386, Vector{910543357, 413163124, -391316413}, 40094364, 23613702, pos(10323371, -46890467), pos(14431984, -15313273), -14150822, -42515839},
		{pos(32399999, 5), pos(16760000, -43921500), 1760156, 49068908, Vector{-626135853, 391316671, 779581081}, 15640000, 108721505, pos(-16668908, 63039850), pos(24580001, -43921498), -13586272, 8405530},
		{pos(16760000, -43921500), pos(1, -1), 37511488, 12218890, Vector{910543357, 413163124, -391316413}, 40094364, 23613702, pos(10994773, -29903813), pos(14431984, -15313273), -12788439, 41976584},
		{pos(1, -1), pos(-32400000, 64800000), 102263899, 53495629, Vector{0, -1073741824, -52}, 32400001, 64800000, pos(2619024, -53772924), pos(-16199999, -1), -27336101, -32400004},
		{pos(32400000, 0), pos(-32400000, 64800000), 82936648, 41436537, Vector{0, 0, -1073741824}, 64800000, -1, pos(-9036537, -18136649), api.Pos{}, 0, 64800000},
		{pos(31000000, 64800000), pos(-32400000, 64800000), 17749067, 119108, Vector{0, -72823117, -1071269480}, 63400000, 64800000, pos(31074591, -63392609), api.Pos{}, 1061088, -63886311},
		{pos(0, 0), pos(16760000, -43921500), 103829989, 14460696, Vector{-626135948, 779581100, -391316481}, 40094365, 115642665, pos(4232989, -13928770), pos(14431983, -15313272), 10910452, 41388942},
		{pos(17000000, -43000000), pos(-12345678, 64000001), 129047391, 13347236, Vector{-788830043, -708724802, -168457182}, 35649471, 82102275, pos(30316956, -46318401), pos(2717078, -55527560), -17557299, -37357540},
		{pos(-31000000, -64799999), pos(16760000, -43921500), 24383155, 63147830, Vector{626135929, 443288089, -751246280}, 48383690, 19692897, pos(30687401, -22763287), pos(-7386520, -45557515), -3336842, 48652634},
	}
}

// P9.3 to P9.8: the steps of the algorithm, exactly.
func TestPairs(t *testing.T) {
	for _, c := range pairs() {
		if v, e := Local(c.p, c.q); v != c.local || e != api.OK {
			t.Errorf("Local(%v, %v) = %v, %v", c.p, c.q, v, e)
		}
		if d, e := Dist(c.p, c.q); d != c.d || e != api.OK {
			t.Errorf("Dist(%v, %v) = %d, %v", c.p, c.q, d, e)
		}
		if a, e := Course(c.p, c.q); c.c >= 0 && (a != c.c || e != api.OK) || c.c < 0 && (a != 0 || e != api.ErrGeom) {
			t.Errorf("Course(%v, %v) = %d, %v", c.p, c.q, a, e)
		}
		if p, e := Along(c.p, c.course, c.dist); p != c.along || e != api.OK {
			t.Errorf("Along(%v, %d, %d) = %v, %v", c.p, c.course, c.dist, p, e)
		}
		if p, e := Along(c.p, c.course-3*api.Circle, c.dist); p != c.along || e != api.OK {
			t.Errorf("Along another course: %v, %v", p, e)
		}
		if p, e := Mid(c.p, c.q); c.d <= MidMax && (p != c.mid || e != api.OK) || c.d > MidMax && (p != (api.Pos{}) || e != api.ErrGeom) {
			t.Errorf("Mid(%v, %v) = %v, %v", c.p, c.q, p, e)
		}
		if off, along, e := Cross(c.p, c.course+api.Circle, c.q); off != c.off || along != c.ahead || e != api.OK {
			t.Errorf("Cross(%v, %d, %v) = %d, %d, %v", c.p, c.course, c.q, off, along, e)
		}
	}
}

// P9.4, P9.9
func TestDist(t *testing.T) {
	for _, p := range positions() {
		for _, q := range positions() {
			d, e := Dist(p, q)
			back, _ := Dist(q, p)
			if r := realDist(real(p), real(q)); e != api.OK || d < 0 || d > api.Half || math.Abs(float64(d)-r) > DistError || back != d {
				t.Errorf("Dist(%v, %v) = %d, %v, real %f, back %d", p, q, d, e, r, back)
			}
			for _, r := range positions() {
				x, _ := Dist(p, r)
				y, _ := Dist(q, r)
				if x > d+y+3*DistError {
					t.Errorf("triangle of %v, %v, %v", p, q, r)
				}
			}
		}
		if d, e := Dist(p, p); d != 0 || e != api.OK {
			t.Errorf("Dist(%v, itself) = %d, %v", p, d, e)
		}
	}
}

// P9.5
func TestCourse(t *testing.T) {
	for _, c := range []struct {
		q    api.Pos
		want int64
		e    api.Errno
	}{
		{pos(0, 30*deg), 90 * deg, api.OK}, {pos(0, 599), 0, api.ErrGeom}, {pos(0, 600), 90 * deg, api.OK}, {pos(-600, 0), 180 * deg, api.OK}, {pos(0, -600), 270 * deg, api.OK}, {pos(0, 0), 0, api.ErrGeom}, {pos(0, api.Half), 0, api.ErrGeom}, {pos(0, api.Half-599), 0, api.ErrGeom}, {pos(0, api.Half-600), 90 * deg, api.OK},
	} {
		if a, e := Course(api.Pos{}, c.q); a != c.want || e != c.e {
			t.Errorf("Course to %v = %d, %v", c.q, a, e)
		}
	}
}

// P9.6, P9.9
func TestAlong(t *testing.T) {
	for _, p := range positions() {
		lat, lon := float64(p.Lat)*math.Pi/api.Half, float64(p.Lon)*math.Pi/api.Half
		v := real(p)
		for course := int64(0); course < api.Circle; course += 7_654_321 {
			for _, d := range []int64{0, 1, 600, 30 * deg, api.Quarter, api.Half - 1, api.Half} {
				q, e := Along(p, course, d)
				a, r := float64(course)*math.Pi/api.Half, float64(d)*math.Pi/api.Half
				ahead := [3]float64{-math.Sin(lon)*math.Sin(a) - math.Sin(lat)*math.Cos(lon)*math.Cos(a), math.Cos(lon)*math.Sin(a) - math.Sin(lat)*math.Sin(lon)*math.Cos(a), math.Cos(lat) * math.Cos(a)}
				var w [3]float64
				for i := range w {
					w[i] = v[i]*math.Cos(r) + ahead[i]*math.Sin(r)
				}
				if off := realDist(real(q), w); e != api.OK || off > AlongError {
					t.Errorf("Along(%v, %d, %d) = %v, %v, off by %f", p, course, d, q, e, off)
				}
				if back, _ := Dist(p, q); back < d-DistError-AlongError || back > d+DistError+AlongError {
					t.Errorf("Along(%v, %d, %d): the distance is %d", p, course, d, back)
				}
			}
		}
		for _, d := range []int64{-1, api.Half + 1, math.MinInt64, math.MaxInt64} {
			if q, e := Along(p, 0, d); q != (api.Pos{}) || e != api.ErrRange {
				t.Errorf("Along(%v, 0, %d) = %v, %v", p, d, q, e)
			}
		}
	}
	if q, e := Along(api.Pos{}, 0, api.Quarter); q != pos(api.Quarter, 0) || e != api.OK {
		t.Errorf("to the pole: %v, %v", q, e)
	}
	if q, e := Along(api.Pos{}, api.Quarter, 30*deg); q != pos(0, 30*deg) || e != api.OK {
		t.Errorf("along the equator: %v, %v", q, e)
	}
	if _, e := Along(api.Pos{Lat: api.Quarter + 1}, 0, -1); e != api.ErrArg {
		t.Errorf("the position goes first: %v", e)
	}
}

// P9.7
func TestMid(t *testing.T) {
	for _, p := range positions() {
		for _, q := range positions() {
			d, _ := Dist(p, q)
			m, e := Mid(p, q)
			if d > 135*deg {
				if m != (api.Pos{}) || e != api.ErrGeom {
					t.Errorf("Mid(%v, %v) = %v, %v", p, q, m, e)
				}
				continue
			}
			x, _ := Dist(p, m)
			y, _ := Dist(q, m)
			if e != api.OK || max(x, y)-min(x, y) > 12 || x+y > d+20 {
				t.Errorf("Mid(%v, %v) = %v, %v: %d and %d of %d", p, q, m, e, x, y, d)
			}
		}
	}
	if m, e := Mid(api.Pos{}, pos(0, 135*deg)); e != api.OK || m.Lat != 0 || m.Lon < 24_299_999 || m.Lon > 24_300_001 {
		t.Errorf("135 degrees: %v, %v", m, e)
	}
	if _, e := Mid(api.Pos{}, pos(0, 135*deg+1)); e != api.ErrGeom {
		t.Errorf("more than 135 degrees: %v", e)
	}
}

// P9.8
func TestCross(t *testing.T) {
	for _, c := range []struct {
		course     int64
		q          api.Pos
		off, along int64
	}{
		{0, pos(0, 10*deg), 10 * deg, 0}, {0, pos(0, -10*deg), -10 * deg, 0}, {0, pos(20*deg, 0), 0, 20 * deg}, {0, pos(-20*deg, 0), 0, -20 * deg}, {api.Half, pos(0, 10*deg), -10 * deg, 0}, {0, pos(0, 90*deg), 90 * deg, 0}, {0, pos(0, api.Half), 0, api.Half},
	} {
		if off, along, e := Cross(api.Pos{}, c.course, c.q); off != c.off || along != c.along || e != api.OK {
			t.Errorf("Cross(%d, %v) = %d, %d, %v", c.course, c.q, off, along, e)
		}
	}
}

// P9.3 to P9.8: positions that are not valid.
func TestInvalid(t *testing.T) {
	for _, bad := range invalid() {
		for _, c := range [][2]api.Pos{{bad, {}}, {{}, bad}} {
			if v, e := Local(c[0], c[1]); v != (Vector{}) || e != api.ErrArg {
				t.Errorf("Local(%v) = %v, %v", c, v, e)
			}
			if d, e := Dist(c[0], c[1]); d != 0 || e != api.ErrArg {
				t.Errorf("Dist(%v) = %d, %v", c, d, e)
			}
			if d, e := Course(c[0], c[1]); d != 0 || e != api.ErrArg {
				t.Errorf("Course(%v) = %d, %v", c, d, e)
			}
			if m, e := Mid(c[0], c[1]); m != (api.Pos{}) || e != api.ErrArg {
				t.Errorf("Mid(%v) = %v, %v", c, m, e)
			}
			if off, along, e := Cross(c[0], 0, c[1]); off != 0 || along != 0 || e != api.ErrArg {
				t.Errorf("Cross(%v) = %d, %d, %v", c, off, along, e)
			}
		}
	}
}
