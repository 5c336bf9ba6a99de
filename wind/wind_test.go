package wind

import (
	"math"
	"testing"

	"flightdeck/api"
)

func w(east, north int64) api.Wind { return api.Wind{East: east, North: north} }

func in(lo, hi int64) api.Interval { return api.Interval{Lo: lo, Hi: hi} }

func invalid() []api.Wind {
	return []api.Wind{w(401, 0), w(-401, 0), w(0, 401), w(0, -401), w(math.MinInt64, math.MaxInt64)}
}

// P13.1, P13.2
func TestSets(t *testing.T) {
	for _, x := range []api.Wind{w(0, 0), w(400, -400), w(-400, 400)} {
		if !Valid(x) {
			t.Errorf("%v is valid", x)
		}
	}
	for _, x := range invalid() {
		if Valid(x) {
			t.Errorf("%v is not valid", x)
		}
		if b, e := Around(x, 0); b != (api.WindBox{}) || e != api.ErrArg {
			t.Errorf("Around(%v) = %v, %v", x, b, e)
		}
	}
	good := api.WindBox{East: in(-400, 400), North: in(3, 5)}
	if !Box(good) || !Box(api.WindBox{}) {
		t.Errorf("valid sets")
	}
	for _, x := range []api.Wind{w(-400, 3), w(400, 5), w(0, 4)} {
		if !Within(good, x) {
			t.Errorf("%v is within", x)
		}
	}
	for _, x := range []api.Wind{w(-401, 3), w(401, 5), w(0, 2), w(0, 6)} {
		if Within(good, x) {
			t.Errorf("%v is not within", x)
		}
	}
	for _, b := range []api.WindBox{{East: in(1, 0)}, {North: in(1, 0)}, {East: in(-401, 0)}, {North: in(0, 401)}, {East: in(math.MinInt64, math.MaxInt64)}} {
		if Box(b) || Within(b, w(0, 0)) {
			t.Errorf("%v is no set", b)
		}
	}
	if b, e := Around(w(10, -390), 15); b != (api.WindBox{East: in(-5, 25), North: in(-400, -375)}) || e != api.OK {
		t.Errorf("Around: %v, %v", b, e)
	}
	if b, e := Around(w(390, 0), 400); b != (api.WindBox{East: in(-10, 400), North: in(-400, 400)}) || e != api.OK {
		t.Errorf("Around: %v, %v", b, e)
	}
	for _, err := range []int64{-1, 401, math.MaxInt64, math.MinInt64} {
		if b, e := Around(w(0, 0), err); b != (api.WindBox{}) || e != api.ErrArg {
			t.Errorf("Around by %d: %v, %v", err, b, e)
		}
	}
}

// P13.3 to P13.7: exact results; a ground speed of 0 stands for ErrGeom.
func TestExact(t *testing.T) {
	for _, c := range []struct {
		course, tas   int64
		w             api.Wind
		along, across int64
		ground, drift int64
		track, speed  int64
		from, knots   int64
		err           int64
		set           api.Interval
	}{
		{-544305688, 4000, w(-10, 23), 17030, 19223, 4112984, -96802, 103790712, 4113074, 56340517, 25, 12, api.Interval{Lo: 4001, Hi: 4032}},
		{-523448262, 4000, w(-26, 196), 201174, 22802, 4297110, -114826, 124661188, 4297234, 62079717, 197, 27, api.Interval{Lo: 4163, Hi: 4230}},
		{283247021, 1, w(-362, -312), -466579, 147601, 0, 0, 82514304, 488393, 17727357, 477, 30, api.Interval{Lo: 0, Hi: 0}},
		{566302567, 50, w(-6, -53), 32568, 43847, 59004, -21208899, 57848964, 94549, 2325173, 53, 80, api.Interval{Lo: 0, Hi: 0}},
		{-515152264, 4000, w(242, 196), 237079, 213271, 4327522, -1074468, 4262139, 4338324, 83158340, 311, 50, api.Interval{Lo: 4165, Hi: 4286}},
		{-547964456, 50, w(-350, -174), 330602, -225610, 0, 0, 89027029, 443477, 22883782, 390, 37, api.Interval{Lo: 0, Hi: 0}},
		{578027820, 4000, w(9, -45), 46926, 2506, 4142925, -12619, 59640300, 4142926, 125528425, 45, 87, api.Interval{Lo: 3938, Hi: 4152}},
		{600976840, 585, w(-215, -295), 363777, -85960, 956617, 2970078, 80740186, 966647, 12990626, 365, 24, api.Interval{Lo: 894, Hi: 997}},
		{528272276, 1, w(-19, -301), -282550, 124685, 0, 0, 66072558, 307900, 1300278, 301, 72, api.Interval{Lo: 0, Hi: 0}},
		{493860529, 250, w(-34, 3), 33461, -10098, 289261, 813831, 104341307, 289637, 34215282, 34, 59, api.Interval{Lo: 190, Hi: 419}},
		{128492204, 50, w(199, 64), 54502, 207000, 0, 0, 21553964, 232426, 90781846, 209, 23, api.Interval{Lo: 0, Hi: 0}},
		{-123806723, 4000, w(315, 398), 480992, 196952, 4572254, -992185, 6680305, 4581227, 78609639, 507, 38, api.Interval{Lo: 4415, Hi: 4480}},
		{315864093, 4000, w(52, -17), 36534, -42469, 4132313, 213867, 56452123, 4132752, 103717354, 54, 9, api.Interval{Lo: 4023, Hi: 4048}},
		{249911924, 250, w(-280, 124), 239109, -202875, 395242, 18870498, 112290496, 535061, 40999139, 306, 19, api.Interval{Lo: 320, Hi: 466}},
		{-563803061, 986, w(100, 31), -101430, -34720, 907636, 709437, 83408821, 908898, 90999563, 104, 9, api.Interval{Lo: 873, Hi: 909}},
		{25767654, 349, w(13, 41), 25898, -35625, 381493, 2059575, 23855905, 384926, 71133272, 43, 44, api.Interval{Lo: 306, Hi: 474}},
		{597315469, 480, w(208, 108), -220336, -95123, 261891, 4017159, 71956960, 287382, 87321698, 234, 8, api.Interval{Lo: 242, Hi: 278}},
		{370118420, 714, w(-305, -124), 167392, -292654, 837402, 8494289, 104423798, 944987, 24435158, 329, 8, api.Interval{Lo: 801, Hi: 843}},
		{593130073, 480, w(29, -21), 5309, -36278, 495488, 1523781, 73226619, 498151, 110127500, 35, 36, api.Interval{Lo: 429, Hi: 570}},
		{97188126, 480, w(333, -5), -340989, -5316, 150502, 223088, 96459958, 150624, 97509683, 333, 45, api.Interval{Lo: 99, Hi: 238}},
		{-396538692, 1, w(-228, 225), 299928, -132804, 0, 0, 113289419, 328950, 48463402, 320, 27, api.Interval{Lo: 0, Hi: 0}},
		{-116251199, 480, w(-44, 34), 610, -56937, 488821, 2394719, 10972983, 495413, 45969926, 55, 63, api.Interval{Lo: 370, Hi: 632}},
		{316622593, 4000, w(-318, -230), 106615, 387478, 4184246, -1954169, 59318979, 4220440, 19484243, 392, 35, api.Interval{Lo: 4036, Hi: 4136}},
		{533587503, 286, w(-260, 40), -148447, -224778, 39287, 18047324, 124166789, 267173, 35548618, 263, 53, api.Interval{Lo: 0, Hi: 0}},
		{0, 100, w(60, 0), 0, 61440, 81920, -13273163, 11146952, 119417, 97200000, 60, 0, in(80, 80)},
	} {
		if along, across, e := Parts(c.course, c.w); along != c.along || across != c.across || e != api.OK {
			t.Errorf("Parts(%d, %v) = %d, %d, %v", c.course, c.w, along, across, e)
		}
		ground, drift, e := Ground(c.course, c.tas, c.w)
		if ground != c.ground || drift != c.drift || (e == api.OK) != (c.ground > 0) || e != api.OK && e != api.ErrGeom {
			t.Errorf("Ground(%d, %d, %v) = %d, %d, %v", c.course, c.tas, c.w, ground, drift, e)
		}
		track, speed, e := Track(c.course, c.tas, c.w)
		if track != c.track || speed != c.speed || e != api.OK {
			t.Errorf("Track(%d, %d, %v) = %d, %d, %v", c.course, c.tas, c.w, track, speed, e)
		}
		if from, knots, e := From(c.w); from != c.from || knots != c.knots || e != api.OK {
			t.Errorf("From(%v) = %d, %d, %v", c.w, from, knots, e)
		}
		b, _ := Around(c.w, c.err)
		set, e := GroundIn(c.course, in(c.tas, min(MaxTAS, c.tas+c.err)), b)
		if set != c.set || (e == api.OK) != (c.set.Hi > 0) || e != api.OK && e != api.ErrGeom {
			t.Errorf("GroundIn(%d, %d, %v) = %v, %v", c.course, c.tas, b, set, e)
		}
	}
}

// P13.4, P13.5, P13.3
func TestTriangles(t *testing.T) {
	if ground, drift, e := Ground(0, 100, w(0, 50)); ground != 153_600 || drift != 0 || e != api.OK {
		t.Errorf("tail wind: %d, %d, %v", ground, drift, e)
	}
	if ground, _, e := Ground(0, 51, w(0, -50)); ground != 1024 || e != api.OK {
		t.Errorf("one knot over ground: %d, %v", ground, e)
	}
	if course, ground, e := Track(0, 100, w(0, 0)); course != 0 || ground != 102_400 || e != api.OK {
		t.Errorf("no wind: %d, %d, %v", course, ground, e)
	}
	if course, ground, e := Track(0, 51, w(0, -50)); course != 0 || ground != 1024 || e != api.OK {
		t.Errorf("one knot over ground: %d, %d, %v", course, ground, e)
	}
	if course, ground, e := Track(0, 3, w(4, 0)); course != 19_126_837 || ground != 5*1024 || e != api.OK {
		t.Errorf("triangle of 3, 4 and 5: %d, %d, %v", course, ground, e)
	}
	for _, c := range []struct {
		tas  int64
		w    api.Wind
		want api.Errno
	}{{60, w(60, 0), api.ErrGeom}, {50, w(0, -50), api.ErrGeom}, {0, w(0, 0), api.ErrArg}, {-1, w(0, 0), api.ErrArg}, {4001, w(0, 0), api.ErrArg}, {0, w(401, 0), api.ErrArg}, {math.MaxInt64, w(0, 0), api.ErrArg}, {4000, w(0, -401), api.ErrArg}} {
		if ground, drift, e := Ground(0, c.tas, c.w); ground != 0 || drift != 0 || e != c.want {
			t.Errorf("Ground(0, %d, %v) = %d, %d, %v", c.tas, c.w, ground, drift, e)
		}
		if c.tas == 60 {
			continue // 60 knots to the north and to the east have a track
		}
		if course, ground, e := Track(0, c.tas, c.w); course != 0 || ground != 0 || e != c.want {
			t.Errorf("Track(0, %d, %v) = %d, %d, %v", c.tas, c.w, course, ground, e)
		}
	}
	for _, x := range invalid() {
		if along, across, e := Parts(0, x); along != 0 || across != 0 || e != api.ErrArg {
			t.Errorf("Parts(%v) = %d, %d, %v", x, along, across, e)
		}
		if from, speed, e := From(x); from != 0 || speed != 0 || e != api.ErrArg {
			t.Errorf("From(%v) = %d, %d, %v", x, from, speed, e)
		}
	}
}

// P13.6
func TestDirections(t *testing.T) {
	for _, c := range []struct {
		from, speed int64
		want        api.Wind
	}{
		{-3572400, 349, w(60, -344)},
		{-141032449, 0, w(0, 0)},
		{-199587652, 1, w(0, 1)},
		{318276898, 0, w(0, 0)},
		{131924767, 1, w(0, -1)},
		{-106677967, 0, w(0, 0)},
		{-232381165, 400, w(-385, -107)},
		{265981117, 400, w(-129, -379)},
		{0, 50, w(0, -50)}, {api.Quarter, 50, w(-50, 0)}, {30 * api.Degree, 1, w(0, -1)}, {210 * api.Degree, 1, w(1, 1)},
	} {
		if got, e := Of(c.from, c.speed); got != c.want || e != api.OK {
			t.Errorf("Of(%d, %d) = %v, %v", c.from, c.speed, got, e)
		}
	}
	for _, speed := range []int64{-1, 401, math.MinInt64, math.MaxInt64} {
		if got, e := Of(0, speed); got != (api.Wind{}) || e != api.ErrArg {
			t.Errorf("Of(0, %d) = %v, %v", speed, got, e)
		}
	}
	if from, speed, e := From(w(0, 0)); from != 0 || speed != 0 || e != api.OK {
		t.Errorf("From of no wind: %d, %d, %v", from, speed, e)
	}
}

// P13.7
func TestGroundIn(t *testing.T) {
	if got, e := GroundIn(0, in(100, 100), api.WindBox{East: in(0, 60), North: in(-10, 10)}); got != in(70, 110) || e != api.OK {
		t.Errorf("GroundIn: %v, %v", got, e)
	}
	for _, c := range []struct {
		tas  api.Interval
		b    api.WindBox
		want api.Errno
	}{
		{in(0, 5), api.WindBox{}, api.ErrArg}, {in(5, 4), api.WindBox{}, api.ErrArg}, {in(5, 4001), api.WindBox{}, api.ErrArg}, {in(5, 5), api.WindBox{East: in(1, 0)}, api.ErrArg}, {in(5, 5), api.WindBox{North: in(0, 401)}, api.ErrArg},
		{in(60, 99), api.WindBox{East: in(0, 60)}, api.ErrGeom}, {in(60, 99), api.WindBox{East: in(-60, 0)}, api.ErrGeom}, {in(50, 99), api.WindBox{North: in(-50, 0)}, api.ErrGeom}, {in(51, 99), api.WindBox{North: in(-50, 0)}, api.OK},
	} {
		if got, e := GroundIn(0, c.tas, c.b); e != c.want || e != api.OK && got != (api.Interval{}) {
			t.Errorf("GroundIn(%v, %v) = %v, %v", c.tas, c.b, got, e)
		}
	}
	for i := range int64(300) {
		course := i * 7_654_321
		b := api.WindBox{East: in(-i%90, i%70), North: in(i%50-60, i%90-20)}
		tas := in(100+i, 100+i+i%40)
		set, e := GroundIn(course, tas, b)
		if e != api.OK {
			continue
		}
		for v := tas.Lo; v <= tas.Hi; v += 13 {
			for east := b.East.Lo; east <= b.East.Hi; east += 17 {
				for north := b.North.Lo; north <= b.North.Hi; north += 11 {
					ground, _, e := Ground(course, v, w(east, north))
					if e != api.OK || ground/Scale < set.Lo || (ground+Scale-1)/Scale > set.Hi {
						t.Errorf("course %d, %d knots, wind {%d, %d}: %d, %v, not in %v", course, v, east, north, ground, e, set)
					}
				}
			}
		}
	}
}

// P13.8
func TestTexts(t *testing.T) {
	for text, x := range map[string]api.Wind{"12,-3": w(12, -3), "0,0": w(0, 0), "-400,400": w(-400, 400)} {
		if s, e := Text(x); s != text || e != api.OK {
			t.Errorf("Text(%v) = %s, %v", x, s, e)
		}
		if got, e := Parse(text); got != x || e != api.OK {
			t.Errorf("Parse(%s) = %v, %v", text, got, e)
		}
	}
	for _, x := range invalid() {
		if s, e := Text(x); s != "" || e != api.ErrArg {
			t.Errorf("Text(%v) = %s, %v", x, s, e)
		}
	}
	for s, want := range map[string]api.Errno{"": api.ErrForm, "1": api.ErrForm, ",": api.ErrForm, "1,": api.ErrForm, ",1": api.ErrForm, "12,-03": api.ErrForm, "-0,1": api.ErrForm, "1,-0": api.ErrForm, "1, 2": api.ErrForm, "1,2,3": api.ErrForm, "+1,2": api.ErrForm, "01,2": api.ErrForm, "--1,2": api.ErrForm, "401,x": api.ErrForm, "401,0": api.ErrRange, "0,-401": api.ErrRange, "99999999999999999999999,0": api.ErrRange} {
		if got, e := Parse(s); got != (api.Wind{}) || e != want {
			t.Errorf("Parse(%q) = %v, %v", s, got, e)
		}
	}
}
