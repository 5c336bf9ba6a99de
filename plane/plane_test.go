package plane

import (
	"math"
	"testing"

	"flightdeck/api"
	"flightdeck/sphere"
)

func pos(lat, lon int64) api.Pos { return api.Pos{Lat: lat, Lon: lon} }
func point(x, y int64) api.Point { return api.Point{X: x, Y: y} }

func origins() []api.Pos {
	return []api.Pos{{}, pos(16560000, -43200000), pos(-25200000, 64800000), pos(25200000, 100), pos(-12000000, -64799999)}
}

func points() []api.Point {
	l := []api.Point{{}, point(1, -1), point(300, 400), point(-70_000, 5)}
	for x := int64(-2_000_000); x <= 2_000_000; x += 500_000 {
		for y := int64(-2_000_000); y <= 2_000_000; y += 333_333 {
			l = append(l, point(x, y))
		}
	}
	return l
}

// P10.1, P10.2: the steps of the algorithm, exactly.
func TestExact(t *testing.T) {
	for _, c := range []struct {
		origin api.Pos
		p      api.Point
		from   api.Pos
		to     api.Point
	}{
		{pos(16560000, -43200000), point(1748624, -392645), pos(16094068, -40743104), point(1748624, -392645)},
		{pos(-25200000, 64800000), point(-1909528, -485060), pos(-25429618, 58989970), point(-1909528, -485060)},
		{pos(25200000, 100), point(-1303930, 1924998), pos(26965983, -5025140), point(-1303930, 1924999)},
		{pos(16560000, -43200000), point(-893493, -1726785), pos(14820429, -44382327), point(-893493, -1726786)},
		{pos(-25200000, 64800000), point(-736009, 1428425), pos(-23744521, 62996659), point(-736009, 1428425)},
		{pos(-12000000, -64799999), point(458454, -1985811), pos(-13975647, -64214336), point(458454, -1985810)},
		{pos(-12000000, -64799999), point(843462, 968208), pos(-11022321, -63821424), point(843462, 968208)},
		{pos(-25200000, 64800000), point(-1723082, -699943), pos(-25683774, 59372853), point(-1723082, -699944)},
		{pos(-25200000, 64800000), point(1433113, -716274), pos(-25765290, -60243510), point(1433113, -716274)},
		{pos(25200000, 100), point(920996, -675468), pos(24473850, 2458916), point(920996, -675467)},
		{pos(16560000, -43200000), point(-1760921, -925496), pos(15564608, -45611346), point(-1760920, -925496)},
		{pos(0, 0), point(1981319, 1144868), pos(1138464, 1975258), point(1981318, 1144867)},
	} {
		q, e := From(c.origin, c.p)
		if q != c.from || e != api.OK {
			t.Errorf("From(%v, %v) = %v, %v", c.origin, c.p, q, e)
		}
		if p, e := To(c.origin, c.from); p != c.to || e != api.OK || !Inside(c.origin, c.from) {
			t.Errorf("To(%v, %v) = %v, %v", c.origin, c.from, p, e)
		}
	}
}

// P10.1, P10.2: errors, and the border of the plane.
func TestErrors(t *testing.T) {
	for _, c := range []struct {
		origin, q api.Pos
		want      api.Errno
	}{
		{pos(0, 0), pos(0, api.Quarter), api.ErrRange},
		{pos(0, 0), pos(0, api.Half), api.ErrRange},
		{pos(0, 0), pos(0, 6*api.Degree), api.ErrRange},
		{pos(0, 0), pos(-6*api.Degree, 0), api.ErrRange},
		{pos(0, 0), pos(api.Quarter, 0), api.ErrRange},
		{pos(0, 0), pos(0, 5*api.Degree), api.OK},
		{pos(70*api.Degree, 0), pos(70*api.Degree, 0), api.OK},
		{pos(-70*api.Degree, 0), pos(-70*api.Degree, 0), api.OK},
		{pos(70*api.Degree+1, 0), pos(70*api.Degree, 0), api.ErrArg},
		{pos(71*api.Degree, 0), pos(0, 0), api.ErrArg},
		{pos(-70*api.Degree-1, 0), pos(-70*api.Degree, 0), api.ErrArg},
		{pos(0, -api.Half), pos(0, 0), api.ErrArg},
		{pos(0, 0), pos(0, -api.Half), api.ErrArg},
		{pos(0, 0), pos(math.MaxInt64, math.MinInt64), api.ErrArg},
	} {
		p, e := To(c.origin, c.q)
		if e != c.want || e != api.OK && p != (api.Point{}) || Inside(c.origin, c.q) != (c.want == api.OK) {
			t.Errorf("To(%v, %v) = %v, %v", c.origin, c.q, p, e)
		}
	}
	for _, p := range []api.Point{point(2_000_001, 0), point(-2_000_001, 0), point(0, 2_000_001), point(0, -2_000_001), point(math.MaxInt64, math.MinInt64)} {
		if q, e := From(api.Pos{}, p); q != (api.Pos{}) || e != api.ErrRange || Valid(p) {
			t.Errorf("From(%v) = %v, %v", p, q, e)
		}
		if q, e := From(pos(71*api.Degree, 0), p); q != (api.Pos{}) || e != api.ErrArg {
			t.Errorf("From(71 degrees, %v) = %v, %v", p, q, e)
		}
	}
	if !Valid(point(2_000_000, -2_000_000)) || !Valid(point(-2_000_000, 2_000_000)) {
		t.Errorf("the corners are valid")
	}
}

// P10.3
func TestRoundTrip(t *testing.T) {
	for _, o := range origins() {
		if p, e := To(o, o); p != (api.Point{}) || e != api.OK {
			t.Errorf("To(%v, itself) = %v, %v", o, p, e)
		}
		for _, p := range points() {
			q, e := From(o, p)
			if e != api.OK {
				t.Errorf("From(%v, %v): %v", o, p, e)
			}
			r, e := To(o, q)
			if e != api.OK && max(p.X, -p.X, p.Y, -p.Y) < api.MaxXY-Error {
				t.Errorf("To(%v, %v): %v", o, q, e)
			}
			if e != api.OK {
				continue
			}
			if max(r.X-p.X, p.X-r.X, r.Y-p.Y, p.Y-r.Y) > Error {
				t.Errorf("%v around %v becomes %v", p, o, r)
			}
			back, _ := From(o, r)
			if d, _ := sphere.Dist(q, back); d > Error+sphere.DistError {
				t.Errorf("%v around %v becomes %v", q, o, back)
			}
		}
	}
}

// P10.4
func TestScale(t *testing.T) {
	for _, o := range origins() {
		l := points()
		for i := range l {
			p, q := l[i], l[(7*i+3)%len(l)]
			a, _ := From(o, p)
			b, _ := From(o, q)
			d, _ := sphere.Dist(a, b)
			e := math.Hypot(float64(p.X-q.X), float64(p.Y-q.Y))
			if e < float64(d)-12 || e > float64(d)*49/48+12 {
				t.Errorf("%v and %v around %v: %d on the sphere, %f in the plane", p, q, o, d, e)
			}
		}
	}
}
