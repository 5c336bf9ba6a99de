package turn

import (
	"math"
	"testing"

	"flightdeck/angle"
	"flightdeck/api"
	"flightdeck/line"
)

const deg = api.Degree

func pt(x, y int64) api.Point { return api.Point{X: x, Y: y} }

func arc(center api.Point, radius, from, sweep int64) api.Arc {
	return api.Arc{Center: center, Radius: radius, From: from, Sweep: sweep}
}

// P12.1
func TestRadiusRate(t *testing.T) {
	for _, c := range [][4]int64{
		{250, 2500, 11719, 440040},
		{1, 1, 501, 41175},
		{1000, 3000, 151435, 136206},
		{480, 1234, 92081, 107522},
		{1, 3000, 1, 136206887},
		{300, 100, 450803, 13726},
	} {
		if r, e := Radius(c[0], c[1]); r != c[2] || e != api.OK {
			t.Errorf("Radius(%d, %d) = %d, %v", c[0], c[1], r, e)
		}
		if r, e := Rate(c[0], c[1]); r != c[3] || e != api.OK {
			t.Errorf("Rate(%d, %d) = %d, %v", c[0], c[1], r, e)
		}
	}
	for _, c := range [][2]int64{{0, 1000}, {-1, 1000}, {1001, 1000}, {250, 0}, {250, -1}, {250, 3001}, {math.MaxInt64, math.MinInt64}} {
		r, e := Radius(c[0], c[1])
		s, f := Rate(c[0], c[1])
		if r != 0 || e != api.ErrRange || s != 0 || f != api.ErrRange {
			t.Errorf("%v: %d, %v, %d, %v", c, r, e, s, f)
		}
	}
	if r, e := Radius(1000, 1); r != 0 || e != api.ErrRange {
		t.Errorf("a radius that is too great: %d, %v", r, e)
	}
	if r, e := Rate(1000, 1); r != 41 || e != api.OK {
		t.Errorf("Rate(1000, 1) = %d, %v", r, e)
	}
}

// P12.2
func TestBank(t *testing.T) {
	for _, speed := range []int64{1, 2, 100, 250, 480, 1000} {
		for _, radius := range []int64{1, 2, 300, 3000, 11_719, 151_434, 151_435, 1_000_000, api.MaxDist} {
			bank, e := Bank(speed, radius)
			least, f := Radius(speed, api.MaxBank)
			if f != api.OK || least > radius {
				if bank != 0 || e != api.ErrGeom {
					t.Errorf("Bank(%d, %d) = %d, %v", speed, radius, bank, e)
				}
				continue
			}
			r, f := Radius(speed, bank)
			if e != api.OK || f != api.OK || r > radius {
				t.Errorf("Bank(%d, %d) = %d, %v: radius %d", speed, radius, bank, e, r)
			}
			if r, f := Radius(speed, bank-1); f == api.OK && r <= radius {
				t.Errorf("Bank(%d, %d) = %d is not the least", speed, radius, bank)
			}
		}
	}
	for _, c := range [][2]int64{{0, 5}, {1001, 5}, {250, 0}, {250, api.MaxDist + 1}, {math.MinInt64, math.MaxInt64}} {
		if bank, e := Bank(c[0], c[1]); bank != 0 || e != api.ErrRange {
			t.Errorf("Bank(%v) = %d, %v", c, bank, e)
		}
	}
}

// P12.3, P12.4, P12.5: exact results.
func TestArcs(t *testing.T) {
	for _, c := range []struct {
		a           api.Arc
		n, at       int64
		p           api.Point
		course      int64
		q           api.Point
		off, length int64
	}{
		{arc(pt(835792, -290170), 51, 75143066, -127937766), 316, 230, pt(835753, -290137), 79223806, pt(-1660485, -1134212), 2635059, 282},
		{arc(pt(606818, -122160), 117590, 48588337, 122310693), 697284, 618397, pt(721054, -94274), 59861449, pt(-1638801, -1092045), -2328525, 229190},
		{arc(pt(-14768, 790754), 20, 104997368, 85190405), 83, 62, pt(-14749, 790748), 71433574, pt(-1581991, 66705), -1726373, 0},
		{arc(pt(-596000, 527974), 3881, 83965746, -64273532), 12093, 5215, pt(-594437, 524422), 23848350, pt(-1294862, -1741958), 2371197, 2447},
		{arc(pt(-805073, 453858), 81, 64139389, 1), 0, 0, pt(-805070, 453777), 96539389, pt(1041760, 412852), -1847207, 0},
		{arc(pt(423676, -343867), 168883, 121833378, 95458769), 781586, 473939, pt(533992, -471741), 82517774, pt(195862, 1010009), -1204026, 35437},
		{arc(pt(24606, 104879), 3, 104488235, -11628232), 2, 2, pt(24603, 104878), 60460003, pt(-740665, 102494), 765271, 1},
		{arc(pt(-137805, -300067), 19583, 48337418, 0), 0, 0, pt(-123783, -313737), 80737418, pt(207240, 1699043), -2009085, 0},
		{arc(pt(3236, 31623), 9768, 123770623, 0), 0, 0, pt(512, 41003), 26570623, pt(-853204, 1524110), -1710989, 0},
		{arc(pt(-831397, 649889), 561514, 23259013, -39303417), 1069956, 67032, pt(-356412, 949367), 117996681, pt(-1681620, 1203143), 452867, 1069956},
		{arc(pt(-179675, -737272), 7454, 21157271, 66765871), 24128, 3736, pt(-172228, -736945), 63895355, pt(-223735, 394810), -1125485, 0},
		{arc(pt(440925, -742333), 15806, 17186764, -109743544), 84096, 68192, pt(446188, -757237), 25397612, pt(-1772176, -1121205), 2229491, 40678},
		{arc(pt(649786, -583327), 5525, 68091444, 22988594), 6158, 1827, pt(647185, -588201), 107311866, pt(-970560, 1017414), -2272169, 6158},
		{arc(pt(-557779, 688154), 439491, 42479746, -65085949), 1386794, 1200332, pt(-831286, 1032169), 83344957, pt(-1880017, 1398476), 1061465, 1378815},
		{arc(pt(892940, -100816), 13270, 70638525, 0), 0, 0, pt(889234, -113558), 103038525, pt(1643642, 326296), -850430, 0},
		{arc(pt(452963, 240694), 71, 108079877, 69815035), 240, 69, pt(452958, 240765), 30951700, pt(895752, -1123427), -1434114, 240},
		{arc(pt(0, 0), 6000, 0, api.Quarter), 9425, 0, pt(0, 6000), api.Quarter, pt(3000, 0), 3000, 9425},
		{arc(pt(0, 0), 6000, 0, api.Quarter), 9425, 9425, pt(6000, 0), api.Half, pt(0, 9000), -3000, 0},
		{arc(pt(0, 0), 6000, 0, -api.Quarter), 9425, 9425, pt(-6000, 0), api.Half, pt(-3000, 0), -3000, 9425},
		{arc(pt(0, 0), 6000, 0, api.Half), 18850, 9425, pt(6000, 0), api.Half, pt(-1, -1), 5999, 18850},
		{arc(pt(0, 0), 6000, 0, api.Half), 18850, 9425, pt(6000, 0), api.Half, pt(-1, 1), 5999, 0},
		{arc(pt(0, 0), 6000, 0, api.Half), 18850, 9425, pt(6000, 0), api.Half, pt(-1, 0), 5999, 18850},
		{arc(pt(0, 0), 6000, 0, 0), 0, 0, pt(0, 6000), api.Quarter, pt(0, 7000), -1000, 0},
	} {
		if !Valid(c.a) || Length(c.a) != c.n {
			t.Errorf("Length(%v) = %d", c.a, Length(c.a))
		}
		if p, course, e := At(c.a, c.at); p != c.p || course != c.course || e != api.OK {
			t.Errorf("At(%v, %d) = %v, %d, %v", c.a, c.at, p, course, e)
		}
		for _, bad := range []int64{-1, c.n + 1, math.MinInt64, math.MaxInt64} {
			if p, course, e := At(c.a, bad); p != (api.Point{}) || course != 0 || e != api.ErrRange {
				t.Errorf("At(%v, %d) = %v, %d, %v", c.a, bad, p, course, e)
			}
		}
		if off, length, e := Offset(c.a, c.q); off != c.off || length != c.length || e != api.OK {
			t.Errorf("Offset(%v, %v) = %d, %d, %v", c.a, c.q, off, length, e)
		}
		if off, length, e := Offset(c.a, c.a.Center); off != 0 || length != 0 || e != api.ErrGeom {
			t.Errorf("Offset of the center: %d, %d, %v", off, length, e)
		}
		if off, length, e := Offset(c.a, pt(2_000_001, 0)); off != 0 || length != 0 || e != api.ErrArg {
			t.Errorf("Offset of a point that is not valid: %d, %d, %v", off, length, e)
		}
	}
	if p, course, e := At(arc(pt(2_000_000, 0), 10, 0, api.Quarter), 16); p != (api.Point{}) || course != 0 || e != api.ErrRange {
		t.Errorf("At beyond the border: %v, %d, %v", p, course, e)
	}
}

// P12.3, P12.4, P12.5
func TestInvalidArcs(t *testing.T) {
	ok := arc(pt(1, 1), 100, 0, deg)
	for _, change := range []func(a *api.Arc){
		func(a *api.Arc) { a.Center.X = 2_000_001 },
		func(a *api.Arc) { a.Radius = 0 },
		func(a *api.Arc) { a.Radius = -5 },
		func(a *api.Arc) { a.Radius = api.MaxDist + 1 },
		func(a *api.Arc) { a.From = -1 },
		func(a *api.Arc) { a.From = api.Circle },
		func(a *api.Arc) { a.Sweep = api.Circle + 1 },
		func(a *api.Arc) { a.Sweep = -api.Circle - 1 },
		func(a *api.Arc) { a.Sweep = math.MinInt64 },
	} {
		a := ok
		change(&a)
		p, course, e := At(a, 0)
		off, length, f := Offset(a, a.Center)
		if Valid(a) || Length(a) != 0 || p != (api.Point{}) || course != 0 || e != api.ErrArg || off != 0 || length != 0 || f != api.ErrArg {
			t.Errorf("%v: %v, %d, %v, %d, %d, %v", a, p, course, e, off, length, f)
		}
	}
	for _, a := range []api.Arc{ok, arc(pt(2_000_000, -2_000_000), api.MaxDist, api.Circle-1, api.Circle), arc(pt(0, 0), 1, 0, -api.Circle)} {
		if !Valid(a) {
			t.Errorf("%v is valid", a)
		}
	}
}

// P12.6
func TestFlyBy(t *testing.T) {
	for _, c := range []struct {
		a, b, c api.Point
		radius  int64
		want    api.FlyBy
	}{
		{pt(-435967, -487152), pt(-458192, -4857), pt(295833, -437896), 7510, api.FlyBy{Arc: arc(pt(-450060, -18187), 7510, 96250168, 44102632), Start: pt(-457562, -18533), End: pt(-446320, -11675), Lead: 13691}},
		{pt(-466256, -437215), pt(69120, -264293), pt(324608, -73393), 14784, api.FlyBy{Arc: arc(pt(62238, -250980), 14784, 58355991, -6792108), Start: pt(66782, -265048), End: pt(71088, -262822), Lead: 2457}},
		{pt(-6070, -418946), pt(259324, 101259), pt(406203, -438335), 11051, api.FlyBy{Arc: arc(pt(256172, 70763), 11051, 106930583, 49587645), Start: pt(246328, 75785), End: pt(266835, 73665), Lead: 28598}},
		{pt(437159, 193484), pt(-40792, -374110), pt(-382325, 236051), 11653, api.FlyBy{Arc: arc(pt(-38853, -353716), 11653, 46835839, 39838629), Start: pt(-29939, -361222), End: pt(-49022, -359408), Lead: 16849}},
		{pt(-447558, 217183), pt(464481, -468137), pt(286550, 381605), 44299, api.FlyBy{Arc: arc(pt(397000, -362020), 44299, 78091832, -49949382), Start: pt(370389, -397435), End: pt(440359, -352940), Lead: 117695}},
		{pt(264873, -54010), pt(182585, 242729), pt(-199031, -231891), 29057, api.FlyBy{Arc: arc(pt(169726, 180363), 29057, 26820324, -45252015), Start: pt(197726, 188128), End: pt(147080, 198571), Lead: 56661}},
		{pt(325798, 176037), pt(-275649, -208688), pt(120978, -486249), 16708, api.FlyBy{Arc: arc(pt(-245617, -209312), 16708, 117861966, -40467558), Start: pt(-254620, -195237), End: pt(-255197, -223001), Lead: 24963}},
		{pt(52641, 328936), pt(267389, 280953), pt(242595, 413700), 44820, api.FlyBy{Arc: arc(pt(210857, 339509), 44820, 69334274, -40742928), Start: pt(201083, 295768), End: pt(254915, 347739), Lead: 67941}},
		{pt(0, -10000), pt(0, 0), pt(10000, 0), 1000, api.FlyBy{Arc: arc(pt(1000, -1000), 1000, 270*deg, 90*deg), Start: pt(0, -1000), End: pt(1000, 0), Lead: 1000}},
		{pt(0, -10000), pt(0, 0), pt(-10000, 0), 10000, api.FlyBy{Arc: arc(pt(-10000, -10000), 10000, 90*deg, -90*deg), Start: pt(0, -10000), End: pt(-10000, 0), Lead: 10000}},
		{pt(0, -10000), pt(0, 0), pt(0, 5), 1000, api.FlyBy{Arc: arc(pt(1000, 0), 1000, 270*deg, 0), Start: pt(0, 0), End: pt(0, 0), Lead: 0}},
	} {
		f, e := FlyBy(c.a, c.b, c.c, c.radius)
		if f != c.want || e != api.OK {
			t.Errorf("FlyBy(%v, %v, %v, %d) = %v, %v", c.a, c.b, c.c, c.radius, f, e)
		}
	}
	for _, c := range []struct {
		a, b, c api.Point
		radius  int64
		want    api.Errno
	}{
		{pt(2_000_001, 0), pt(0, 0), pt(5, 0), 0, api.ErrArg},
		{pt(0, 0), pt(0, 2_000_001), pt(5, 0), 0, api.ErrArg},
		{pt(0, 0), pt(0, 5), pt(math.MinInt64, 0), 0, api.ErrArg},
		{pt(0, 0), pt(0, 0), pt(5, 0), 0, api.ErrRange},
		{pt(0, 0), pt(0, 0), pt(5, 0), api.MaxDist + 1, api.ErrRange},
		{pt(0, 0), pt(0, 0), pt(5, 0), 1, api.ErrGeom},
		{pt(0, 0), pt(5, 0), pt(5, 0), 1, api.ErrGeom},
		{pt(0, -10000), pt(0, 0), pt(10000, 0), 10001, api.ErrGeom},
		{pt(0, -20000), pt(0, 0), pt(10000, 0), 10001, api.ErrGeom},
		{pt(0, -10000), pt(0, 0), pt(20000, 0), 10001, api.ErrGeom},
		{pt(0, -10000), pt(0, 0), pt(0, -10000), 1, api.ErrGeom},
		{pt(0, -10000), pt(0, 0), pt(5000, -10000), 1, api.ErrGeom},
		{pt(0, -10000), pt(0, 0), pt(6000, -10000), 1, api.OK},
		{pt(1_999_990, -10000), pt(1_999_990, 0), pt(2_000_000, 10000), 100000, api.ErrRange},
	} {
		if f, e := FlyBy(c.a, c.b, c.c, c.radius); e != c.want || e != api.OK && f != (api.FlyBy{}) {
			t.Errorf("FlyBy(%v, %v, %v, %d) = %v, %v, want %v", c.a, c.b, c.c, c.radius, f, e, c.want)
		}
	}
}

func near(p, q api.Point, most int64) bool {
	return max(p.X-q.X, q.X-p.X, p.Y-q.Y, q.Y-p.Y) <= most
}

// P12.7
func TestFlyByEnds(t *testing.T) {
	count := 0
	for i := range int64(4000) {
		a := pt(i*7919%1_000_001-500_000, i*104_729%900_001-450_000)
		b := pt(i*15_485_863%1_000_001-500_000, i*32_452_843%900_001-450_000)
		c := pt(i*49_979_687%1_000_001-500_000, i*67_867_967%900_001-450_000)
		f, e := FlyBy(a, b, c, 1+i*i%90_000)
		if e != api.OK {
			continue
		}
		count++
		start, _, e := At(f.Arc, 0)
		if e == api.OK && !near(start, f.Start, Gap) {
			t.Errorf("the arc of %v begins in %v", f, start)
		}
		end, _, e := At(f.Arc, Length(f.Arc))
		if e == api.OK && !near(end, f.End, Gap) {
			t.Errorf("the arc of %v ends in %v", f, end)
		}
		if off, _, _ := line.Offset(a, b, f.Start); off < -2 || off > 2 {
			t.Errorf("%v begins %d off the line", f, off)
		}
		if off, _, _ := line.Offset(b, c, f.End); off < -2 || off > 2 {
			t.Errorf("%v ends %d off the line", f, off)
		}
	}
	if count < 1000 {
		t.Errorf("only %d turns", count)
	}
}

// P12.8
func TestTangent(t *testing.T) {
	for _, c := range []struct {
		center api.Point
		radius int64
		turn   byte
		p      api.Point
		want   api.Point
	}{
		{pt(-152946, 314760), 613290, api.Left, pt(42548, -401771), pt(-353385, -264851)},
		{pt(-465669, -120364), 61405, api.Right, pt(-115026, 224877), pt(-502954, -71574)},
		{pt(299903, -470626), 725856, api.Left, pt(-122130, 466070), pt(557589, 207950)},
		{pt(-43212, 218986), 360719, api.Right, pt(372902, -445736), pt(316314, 248300)},
		{pt(-489695, -147475), 677, api.Right, pt(-428605, 8495), pt(-490324, -147226)},
		{pt(-223494, -408228), 646142, api.Right, pt(210001, 119430), pt(3027, 196907)},
		{pt(0, 0), 3000, api.Right, pt(0, 5000), pt(-2400, 1800)},
		{pt(0, 0), 3000, api.Left, pt(0, 5000), pt(2400, 1800)},
	} {
		if p, e := Tangent(c.center, c.radius, c.turn, c.p); p != c.want || e != api.OK {
			t.Errorf("Tangent(%v, %d, %d, %v) = %v, %v", c.center, c.radius, c.turn, c.p, p, e)
		}
	}
	for _, c := range []struct {
		center api.Point
		radius int64
		turn   byte
		p      api.Point
		want   api.Errno
	}{
		{pt(2_000_001, 0), 0, api.Right, pt(0, 5), api.ErrArg},
		{pt(0, 0), 0, api.Right, pt(0, -2_000_001), api.ErrArg},
		{pt(0, 0), 0, 0, pt(0, 5), api.ErrArg},
		{pt(0, 0), 0, 3, pt(0, 5), api.ErrArg},
		{pt(0, 0), 0, api.Left, pt(0, 0), api.ErrRange},
		{pt(0, 0), api.MaxDist + 1, api.Left, pt(0, 0), api.ErrRange},
		{pt(0, 0), 5, api.Left, pt(0, 0), api.ErrGeom},
		{pt(0, 0), 5, api.Left, pt(3, 4), api.ErrGeom},
		{pt(0, 0), api.MaxDist, api.Left, pt(3, 4), api.ErrGeom},
		{pt(1_999_999, 0), 10, api.Left, pt(1_999_999, 11), api.ErrRange},
	} {
		if p, e := Tangent(c.center, c.radius, c.turn, c.p); p != (api.Point{}) || e != c.want {
			t.Errorf("Tangent(%v, %d, %d, %v) = %v, %v, want %v", c.center, c.radius, c.turn, c.p, p, e, c.want)
		}
	}
}

// P12.9
func TestAround(t *testing.T) {
	for _, c := range []struct {
		a, center, b api.Point
		turn         byte
		want         api.Arc
	}{
		{pt(-383081, -418348), pt(-361190, -367949), pt(-310320, -347185), api.Left, arc(pt(-361190, -367949), 54947, 73252044, -48845551)},
		{pt(-125658, 74007), pt(-97448, 122664), pt(-110066, 67851), api.Left, arc(pt(-97448, 122664), 56243, 75637435, -6170505)},
		{pt(499426, -195839), pt(473641, -216725), pt(504510, -228882), api.Right, arc(pt(473641, -216725), 33182, 18357238, 21781245)},
		{pt(-42961, -409147), pt(-29798, -390187), pt(-14826, -372613), api.Right, arc(pt(-29798, -390187), 23081, 77317327, 66837119)},
		{pt(-344802, -389305), pt(-331739, -374264), pt(-320763, -390891), api.Right, arc(pt(-331739, -374264), 19921, 79550668, 102814517)},
		{pt(377887, -27865), pt(411799, 56579), pt(335125, 105600), api.Right, arc(pt(411799, 56579), 90998, 72676792, 36256521)},
		{pt(0, 100), pt(0, 0), pt(100, 0), api.Left, arc(pt(0, 0), 100, 0, -270*deg)},
		{pt(0, 100), pt(0, 0), pt(100, 0), api.Right, arc(pt(0, 0), 100, 0, 90*deg)},
		{pt(0, 100), pt(0, 0), pt(0, 108), api.Right, arc(pt(0, 0), 100, 0, api.Circle)},
		{pt(0, 108), pt(0, 0), pt(0, 100), api.Left, arc(pt(0, 0), 108, 0, -api.Circle)},
	} {
		if a, e := Around(c.a, c.center, c.b, c.turn); a != c.want || e != api.OK {
			t.Errorf("Around(%v, %v, %v, %d) = %v, %v", c.a, c.center, c.b, c.turn, a, e)
		}
	}
	for _, c := range []struct {
		a, center, b api.Point
		turn         byte
		want         api.Errno
	}{
		{pt(2_000_001, 0), pt(0, 0), pt(5, 0), api.Left, api.ErrArg},
		{pt(5, 0), pt(0, 2_000_001), pt(5, 0), api.Left, api.ErrArg},
		{pt(5, 0), pt(0, 0), pt(math.MaxInt64, 0), api.Left, api.ErrArg},
		{pt(0, 0), pt(0, 0), pt(0, 0), 0, api.ErrArg},
		{pt(0, 0), pt(0, 0), pt(0, 5), api.Right, api.ErrGeom},
		{pt(0, 5), pt(0, 0), pt(0, 0), api.Right, api.ErrGeom},
		{pt(0, 100), pt(0, 0), pt(109, 0), api.Right, api.ErrGeom},
		{pt(0, 109), pt(0, 0), pt(100, 0), api.Right, api.ErrGeom},
	} {
		if a, e := Around(c.a, c.center, c.b, c.turn); a != (api.Arc{}) || e != c.want {
			t.Errorf("Around(%v, %v, %v, %d) = %v, %v, want %v", c.a, c.center, c.b, c.turn, a, e, c.want)
		}
	}
	for i := range int64(2000) {
		center := pt(i*7919%1_000_001-500_000, i*104_729%900_001-450_000)
		r := 1 + i*i%900_000
		a, e := line.Ray(center, i*987_654_321, r)
		b, f := line.Ray(center, i*123_456_789, r+i%15-7)
		if e != api.OK || f != api.OK {
			continue
		}
		x, e := Around(a, center, b, byte(1+i%2))
		if e != api.OK {
			continue
		}
		start, _, e := At(x, 0)
		if e == api.OK && !near(start, a, 4) {
			t.Errorf("%v begins in %v, not in %v", x, start, a)
		}
		end, _, e := At(x, Length(x))
		if e == api.OK && !near(end, b, Spread+4) {
			t.Errorf("%v ends in %v, not in %v", x, end, b)
		}
		if x.Sweep == 0 || (x.Sweep > 0) != (i%2 == 1) || angle.Norm(x.From) != x.From {
			t.Errorf("%v", x)
		}
	}
}
