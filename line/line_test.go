package line

import (
	"math"
	"testing"

	"flightdeck/api"
)

func pt(x, y int64) api.Point { return api.Point{X: x, Y: y} }

// none stands for a result that is not valid.
func none() api.Point { return pt(math.MaxInt64, 0) }

func invalid() []api.Point {
	return []api.Point{pt(2_000_001, 0), pt(0, -2_000_001), pt(math.MaxInt64, math.MinInt64), pt(math.MinInt64, math.MinInt64)}
}

func checkPoint(t *testing.T, name string, got api.Point, e api.Errno, want api.Point) {
	t.Helper()
	if want == none() && (got != api.Point{} || e != api.ErrRange) || want != none() && (got != want || e != api.OK) {
		t.Errorf("%s = %v, %v, want %v", name, got, e, want)
	}
}

// P11.1 to P11.5, P11.7: exact results.
func TestExact(t *testing.T) {
	for _, c := range []struct {
		a, b, c, d         api.Point
		course, off, along int64
		foot, meet         api.Point
		past               bool
		dist               int64
	}{
		{pt(1447525, -1662067), pt(34382, 1196969), pt(-902680, -1845555), pt(-1998106, -1389402), 120131308, -2188195, 876887, pt(1058975, -875963), none(), true, 3189209},
		{pt(459893, -27611), pt(1186541, 1082126), pt(-434852, -660400), pt(1230200, -1908188), 11957939, -401905, -1019540, pt(-98615, -880565), pt(-112588, -901904), false, 1326474},
		{pt(3009, -1755), pt(1783, 3819), pt(3835, -3457), pt(-1839, 4231), 125134318, 441, -1839, pt(3404, -3552), pt(3192, -2585), false, 5707},
		{pt(934015, 1376935), pt(1057177, -886324), pt(780404, 1369558), pt(558722, 875991), 63678655, 153784, -980, pt(933962, 1377914), pt(917773, 1675405), true, 2266607},
		{pt(7, 1), pt(-15, 3), pt(6, -4), pt(8, -14), 99069994, -5, 0, pt(6, 1), pt(5, 1), true, 22},
		{pt(20, -2), pt(-14, -18), pt(17, -8), pt(3, 11), 88127596, -4, 5, pt(15, -4), pt(14, -5), false, 37},
		{pt(12, 16), pt(12, -19), pt(20, 3), pt(-5, 18), 64800000, -8, 13, pt(12, 3), pt(12, 8), false, 35},
		{pt(-14, 855), pt(4652, -3041), pt(-3531, 3194), pt(3605, -1738), 46749990, 458, -4198, pt(-3237, 3546), pt(624, 322), false, 6078},
		{pt(18, -3), pt(-1, -8), pt(4, 10), pt(-6, -12), 91892318, 16, 10, pt(8, -6), pt(-5, -9), true, 19},
		{pt(-1119678, 1498065), pt(1630334, 1674146), pt(928562, 190016), pt(-1947476, -1208340), 31081104, 1436254, 1960472, pt(836788, 1623336), none(), true, 2755643},
		{pt(-19, 1), pt(15, 19), pt(19, -1), pt(3, 4), 22356983, 19, 32, pt(10, 16), pt(-7, 7), false, 38},
		{pt(-367722, -787221), pt(-1468017, 846798), pt(49998, -1774254), pt(-1222591, -226277), 117376187, -204810, -1052034, pt(219884, -1659859), none(), true, 1969940},
		{pt(1130263, -331656), pt(-1597425, -149250), pt(-971091, 1379203), pt(-1626468, 1742397), 98577283, 1566837, 2210824, pt(-1075635, -184143), none(), true, 2733780},
		{pt(811094, 1651036), pt(1730886, -128869), pt(-124332, 1287949), pt(1486555, -406087), 54961804, 997712, -106880, pt(762026, 1745988), none(), true, 2003516},
		{pt(13, 7), pt(10, -1), pt(6, -15), pt(-8, -3), 72200176, -1, 23, pt(5, -15), pt(5, -14), true, 8},
		{pt(2989, -2180), pt(-4697, -4642), pt(3813, -2977), pt(-886, 4656), 90805882, -1010, -541, pt(3505, -2015), pt(3267, -2091), false, 8070},
	} {
		if got, e := Course(c.a, c.b); got != c.course || e != api.OK {
			t.Errorf("Course(%v, %v) = %d, %v", c.a, c.b, got, e)
		}
		if got := Dist(c.a, c.b); got != c.dist {
			t.Errorf("Dist(%v, %v) = %d", c.a, c.b, got)
		}
		if off, along, e := Offset(c.a, c.b, c.c); off != c.off || along != c.along || e != api.OK {
			t.Errorf("Offset(%v, %v, %v) = %d, %d, %v", c.a, c.b, c.c, off, along, e)
		}
		p, e := Foot(c.a, c.b, c.c)
		checkPoint(t, "Foot", p, e, c.foot)
		p, e = Meet(c.a, c.b, c.c, c.d)
		checkPoint(t, "Meet", p, e, c.meet)
		if e == api.OK {
			for _, l := range [][2]api.Point{{c.a, c.b}, {c.c, c.d}} {
				if off, _, _ := Offset(l[0], l[1], p); off != 0 {
					t.Errorf("%v is %d off the line %v", p, off, l)
				}
			}
		}
		if got := Past(c.a, c.b, c.c, c.d); got != c.past {
			t.Errorf("Past(%v, %v, %v, %v) = %v", c.a, c.b, c.c, c.d, got)
		}
		if side, right := Side(c.a, c.b, c.c), c.off; right > 0 && side != 1 || right < 0 && side != -1 {
			t.Errorf("Side(%v, %v, %v) = %d", c.a, c.b, c.c, side)
		}
		if Side(c.b, c.a, c.c) != -Side(c.a, c.b, c.c) {
			t.Errorf("Side is not turned around")
		}
	}
}

// P11.1
func TestSideAhead(t *testing.T) {
	a, b := pt(0, 0), pt(0, 10)
	for _, c := range []struct {
		p           api.Point
		side, ahead int
	}{{pt(3, 4), 1, -1}, {pt(-3, 4), -1, -1}, {pt(0, 99), 0, 1}, {pt(0, -99), 0, -1}, {pt(5, 11), 1, 1}, {pt(5, 9), 1, -1}, {pt(-7, 10), -1, 0}, {pt(0, 10), 0, 0}} {
		if side, ahead := Side(a, b, c.p), Ahead(a, b, c.p); side != c.side || ahead != c.ahead {
			t.Errorf("%v: %d, %d", c.p, side, ahead)
		}
	}
	far := pt(2_000_000, 2_000_000)
	if Side(pt(-2_000_000, -2_000_000), far, pt(1_999_999, 2_000_000)) != -1 || Side(far, far, pt(1, 2)) != 0 || Ahead(far, far, pt(1, 2)) != 0 {
		t.Errorf("at the corners")
	}
}

// P11.2
func TestCourse(t *testing.T) {
	for _, c := range []struct {
		b    api.Point
		want int64
	}{{pt(10, 0), 90}, {pt(0, 10), 0}, {pt(0, -10), 180}, {pt(-10, 0), 270}, {pt(7, 7), 45}, {pt(-7, 7), 315}} {
		if got, e := Course(pt(0, 0), c.b); got != c.want*api.Degree || e != api.OK {
			t.Errorf("Course to %v = %d, %v", c.b, got, e)
		}
	}
	if got, e := Course(pt(3, 4), pt(3, 4)); got != 0 || e != api.ErrGeom {
		t.Errorf("Course to itself = %d, %v", got, e)
	}
	if Dist(pt(0, 0), pt(1, 1)) != 1 || Dist(pt(-3, 0), pt(0, 4)) != 5 || Dist(pt(-2_000_000, -2_000_000), pt(2_000_000, 2_000_000)) != 5_656_854 || Dist(pt(5, 5), pt(5, 5)) != 0 {
		t.Errorf("Dist")
	}
}

// P11.3, P11.4, P11.5
func TestConstructions(t *testing.T) {
	if off, along, e := Offset(pt(0, 0), pt(0, 10), pt(3, 4)); off != 3 || along != 4 || e != api.OK {
		t.Errorf("Offset: %d, %d, %v", off, along, e)
	}
	if off, along, e := Offset(pt(0, 0), pt(0, 10), pt(-3, -4)); off != -3 || along != -4 || e != api.OK {
		t.Errorf("Offset: %d, %d, %v", off, along, e)
	}
	p, e := Foot(pt(0, 0), pt(10, 0), pt(3, 4))
	checkPoint(t, "Foot", p, e, pt(3, 0))
	p, e = Foot(pt(0, 0), pt(1, 1), pt(1, 0)) // {0.5, 0.5}
	checkPoint(t, "Foot halfway", p, e, pt(1, 1))
	p, e = Foot(pt(0, 0), pt(1, 1), pt(-1, 0))
	checkPoint(t, "Foot halfway below 0", p, e, pt(0, 0))
	p, e = Foot(pt(2_000_000, 0), pt(1_999_999, 1), pt(2_000_000, -2_000_000))
	checkPoint(t, "Foot out of range", p, e, none())
	p, e = Meet(pt(0, 0), pt(10, 10), pt(0, 10), pt(10, 0))
	checkPoint(t, "Meet", p, e, pt(5, 5))
	p, e = Meet(pt(0, 0), pt(1, 1), pt(0, 1), pt(1, 0))
	checkPoint(t, "Meet halfway", p, e, pt(1, 1))
	p, e = Meet(pt(-2_000_000, 2_000_000), pt(2_000_000, 2_000_000), pt(-2_000_000, -2_000_000), pt(2_000_000, -1_999_999))
	checkPoint(t, "Meet far away", p, e, none())
	for _, c := range [][4]api.Point{{pt(1, 1), pt(1, 1), pt(0, 0), pt(5, 4)}, {pt(0, 0), pt(5, 4), pt(1, 1), pt(1, 1)}, {pt(0, 0), pt(1, 1), pt(5, 0), pt(7, 2)}, {pt(0, 0), pt(1, 1), pt(3, 3), pt(2, 2)}} {
		if p, e := Meet(c[0], c[1], c[2], c[3]); p != (api.Point{}) || e != api.ErrGeom {
			t.Errorf("Meet(%v) = %v, %v", c, p, e)
		}
	}
	if off, along, e := Offset(pt(1, 1), pt(1, 1), pt(2, 2)); off != 0 || along != 0 || e != api.ErrGeom {
		t.Errorf("Offset of no line: %d, %d, %v", off, along, e)
	}
	if p, e := Foot(pt(1, 1), pt(1, 1), pt(2, 2)); p != (api.Point{}) || e != api.ErrGeom {
		t.Errorf("Foot of no line: %v, %v", p, e)
	}
}

// P11.6
func TestRay(t *testing.T) {
	for _, c := range []struct {
		p            api.Point
		course, dist int64
		want         api.Point
	}{
		{pt(14349, -713321), -195147442, 27157, pt(15333, -740460)},
		{pt(393867, -118228), 923950733, -232862, pt(224871, -278432)},
		{pt(222062, 268917), 788796828, -219048, pt(108909, 81358)},
		{pt(1027006, 491073), 759309303, 15922, pt(1014666, 501135)},
		{pt(-903633, 83257), 837096923, -179479, pt(-949270, 256837)},
		{pt(1161154, 459835), 92950541, -115721, pt(1274428, 483508)},
		{pt(1265066, -816199), 319091501, 228186, pt(1318857, -1037954)},
		{pt(1029297, -385138), 78874902, 177483, pt(917370, -522879)},
		{pt(0, 0), 30 * api.Degree, 1000, pt(500, 866)},
		{pt(0, 0), 30 * api.Degree, 1, pt(1, 1)},
		{pt(0, 0), 30 * api.Degree, -1, pt(0, -1)},
		{pt(5, 5), 0, 0, pt(5, 5)},
		{pt(-2_000_000, 0), api.Quarter, 4_000_000, pt(2_000_000, 0)},
		{pt(-2_000_000, 0), api.Quarter, 4_000_001, none()},
		{pt(0, 0), 0, api.MaxDist, none()},
		{pt(0, 0), 0, api.MaxDist + 1, none()},
		{pt(0, 0), 0, -api.MaxDist - 1, none()},
		{pt(0, 0), 0, math.MinInt64, none()},
	} {
		p, e := Ray(c.p, c.course, c.dist)
		checkPoint(t, "Ray", p, e, c.want)
	}
}

// P11.7
func TestPast(t *testing.T) {
	a, b, c := pt(0, 0), pt(0, 10), pt(10, 10)
	if !Past(a, b, c, pt(1, 10)) || Past(a, b, c, pt(0, 9)) || Past(a, b, c, b) || !Past(a, b, c, pt(0, 11)) || Past(a, b, c, pt(1, 8)) {
		t.Errorf("Past")
	}
	if Past(a, a, c, pt(99, 99)) || Past(a, b, b, pt(99, 99)) {
		t.Errorf("Past of equal points")
	}
}

// Points that are not valid, in every place.
func TestInvalid(t *testing.T) {
	for _, bad := range invalid() {
		l := [4]api.Point{pt(0, 0), pt(3, 4), pt(10, -5), pt(-7, 2)}
		for i := range l {
			c := l
			c[i] = bad
			if i < 3 && (Side(c[0], c[1], c[2]) != 0 || Ahead(c[0], c[1], c[2]) != 0) {
				t.Errorf("Side or Ahead of %v", c)
			}
			if i < 2 && Dist(c[0], c[1]) != 0 {
				t.Errorf("Dist of %v", c)
			}
			if got, e := Course(c[0], c[1]); i < 2 && (got != 0 || e != api.ErrArg) {
				t.Errorf("Course of %v: %d, %v", c, got, e)
			}
			if off, along, e := Offset(c[0], c[1], c[2]); i < 3 && (off != 0 || along != 0 || e != api.ErrArg) {
				t.Errorf("Offset of %v: %d, %d, %v", c, off, along, e)
			}
			if p, e := Foot(c[0], c[1], c[2]); i < 3 && (p != api.Point{} || e != api.ErrArg) {
				t.Errorf("Foot of %v: %v, %v", c, p, e)
			}
			if p, e := Meet(c[0], c[1], c[2], c[3]); p != (api.Point{}) || e != api.ErrArg {
				t.Errorf("Meet of %v: %v, %v", c, p, e)
			}
			if Past(c[0], c[1], c[2], c[3]) {
				t.Errorf("Past of %v", c)
			}
		}
		if p, e := Ray(bad, 0, math.MaxInt64); p != (api.Point{}) || e != api.ErrArg {
			t.Errorf("Ray from %v: %v, %v", bad, p, e)
		}
		if got, e := Course(bad, bad); got != 0 || e != api.ErrArg {
			t.Errorf("Course of %v twice: %d, %v", bad, got, e)
		}
	}
}
