package airspeed

import (
	"math"
	"testing"

	"flightdeck/api"
)

// P30.1 to P30.4, P30.6: exact results. A CAS of -1 stands for ErrRange.
func TestExact(t *testing.T) {
	for _, c := range []struct{ alt, dev, pressure, temperature, sound, ratio, cas, tas, t, casOfT, machOfT, m, ofM, schedule int64 }{
		{-200000, 0, 1074400, 29211, 10656, 971400, 161, 156, 978, -1, 1468, 1869, 1245, 156},
		{0, -4000, 1000000, 24815, 9821, 930591, 877, 816, 1504, -1, 2450, 1422, 873, 816},
		{3608900, -1231, 224366, 20434, 8912, 1804727, 725, 1308, 1149, 637, 2062, 728, 406, 406},
		{3090646, -4000, 285814, 18691, 8523, 1548670, 957, 1482, 845, 546, 1586, 1756, 936, 936},
		{2779364, 4000, 329698, 27308, 10303, 1681789, 947, 1592, 2094, -1, 3251, 1488, 959, 959},
		{3608899, 728, 224366, 22393, 9330, 1867414, 860, 1605, 2005, -1, 3438, 859, 501, 501},
		{462358, 4000, 844647, 31898, 11135, 1145849, 449, 514, 1290, -1, 1853, 1166, 812, 514},
		{5621910, 0, 85318, 21665, 9177, 2980069, 502, 1495, 3870, -1, 6747, 1964, 1127, 1127},
		{3608901, -4000, 224366, 17665, 8286, 1716122, 628, 1077, 3215, -1, 6208, 1921, 995, 995},
		{-200000, -1653, 1074400, 27558, 10350, 943537, 155, 146, 3504, -1, 5416, 1816, 1175, 146},
		{3608900, 0, 224366, 21665, 9177, 1844119, 75, 138, 2971, -1, 5179, 959, 551, 138},
		{4455597, -4000, 149016, 17665, 8286, 2093700, 183, 383, 3883, -1, 7497, 1113, 577, 383},
		{3994901, -4000, 185611, 17665, 8286, 1873527, 317, 593, 673, 360, 1299, 637, 330, 330},
		{5052568, -831, 111924, 20834, 8999, 2559760, 344, 880, 1808, 707, 3214, 1782, 1003, 880},
		{422442, -4000, 858059, 23978, 9654, 991367, 118, 116, 2017, -1, 3342, 1385, 836, 116},
		{3069770, 4000, 288390, 26733, 10194, 1772474, 950, 1683, 3035, -1, 4763, 1981, 1263, 1263},
		{574619, 0, 810464, 27676, 10372, 1090194, 461, 502, 243, 223, 374, 1830, 1187, 502},
		{500001, 2740, 831999, 30564, 10900, 1128519, 578, 652, 3573, -1, 5244, 985, 672, 652},
		{0, 0, 1000000, 28815, 10583, 1000000, 485, 485, 334, 334, 504, 1727, 1143, 485},
		{4577991, -2102, 140664, 19563, 8720, 2233404, 709, 1583, 1047, 469, 1921, 1476, 805, 805},
		{6000000, 0, 70800, 21665, 9177, 3259100, 57, 185, 3087, 948, 5382, 682, 392, 185},
		{5240012, 4000, 102739, 25665, 9988, 2908695, 57, 165, 3830, -1, 6135, 1266, 791, 165},
		{5715653, 877, 81718, 22542, 9361, 3095653, 319, 987, 3365, -1, 5751, 1123, 658, 658},
		{59128, 3319, 980132, 32016, 11156, 1067258, 15, 16, 2740, -1, 3929, 1830, 1276, 16},
	} {
		if x, e := TAS(c.cas, c.alt, c.dev); x != c.tas || e != api.OK {
			t.Errorf("TAS(%d, %d, %d) = %d, %v", c.cas, c.alt, c.dev, x, e)
		}
		x, e := CAS(c.t, c.alt, c.dev)
		if c.casOfT >= 0 && (x != c.casOfT || e != api.OK) || c.casOfT < 0 && (x != 0 || e != api.ErrRange) {
			t.Errorf("CAS(%d, %d, %d) = %d, %v", c.t, c.alt, c.dev, x, e)
		}
		if x, e := Mach(c.t, c.alt, c.dev); x != c.machOfT || e != api.OK {
			t.Errorf("Mach(%d, %d, %d) = %d, %v", c.t, c.alt, c.dev, x, e)
		}
		if x, e := OfMach(c.m, c.alt, c.dev); x != c.ofM || e != api.OK {
			t.Errorf("OfMach(%d, %d, %d) = %d, %v", c.m, c.alt, c.dev, x, e)
		}
		if x, e := Schedule(c.cas, c.m, c.alt, c.dev); x != c.schedule || e != api.OK {
			t.Errorf("Schedule(%d, %d, %d, %d) = %d, %v", c.cas, c.m, c.alt, c.dev, x, e)
		}
	}
}

// P30.2, P30.4: the least ones.
func TestLeast(t *testing.T) {
	for alt := int64(api.MinAlt); alt <= api.MaxAlt; alt += 387_011 {
		for v := int64(0); v <= 2000; v += 41 {
			cas, e := CAS(v, alt, 150)
			if e == api.OK {
				at, _ := TAS(cas, alt, 150)
				below, _ := TAS(cas-1, alt, 150)
				if at < v || cas > 0 && below >= v {
					t.Errorf("CAS(%d, %d) = %d", v, alt, cas)
				}
			} else if most, _ := TAS(1000, alt, 150); e != api.ErrRange || most >= v {
				t.Errorf("CAS(%d, %d): %v", v, alt, e)
			}
			tas, _ := OfMach(v, alt, 150)
			at, _ := Mach(tas, alt, 150)
			below, _ := Mach(tas-1, alt, 150)
			if at < v || tas > 0 && below >= v {
				t.Errorf("OfMach(%d, %d) = %d", v, alt, tas)
			}
		}
	}
}

// P30.5
func TestCrossover(t *testing.T) {
	for _, cas := range []int64{0, 1, 100, 250, 300, 1000} {
		for _, mach := range []int64{0, 1, 300, 780, 2000} {
			for _, dev := range []int64{-4000, 0, 1234} {
				alt, e := Crossover(cas, mach, dev)
				reaches := func(alt int64) bool {
					v, _ := TAS(cas, alt, dev)
					m, _ := Mach(v, alt, dev)
					return m >= mach
				}
				if e == api.ErrRange {
					if alt != 0 || reaches(api.MaxAlt) {
						t.Errorf("Crossover(%d, %d, %d): %v", cas, mach, dev, e)
					}
				} else if e != api.OK || !reaches(alt) || alt > api.MinAlt && reaches(alt-1) {
					t.Errorf("Crossover(%d, %d, %d) = %d, %v", cas, mach, dev, alt, e)
				}
			}
		}
	}
	if alt, e := Crossover(0, 1, 0); alt != 0 || e != api.ErrRange {
		t.Errorf("no crossover: %d, %v", alt, e)
	}
	if alt, e := Crossover(300, 0, 0); alt != -200_000 || e != api.OK {
		t.Errorf("Mach 0: %d, %v", alt, e)
	}
	for _, c := range [][3]int64{{-1, 5, 0}, {1001, 5, 0}, {5, -1, 0}, {5, 2001, 0}, {5, 5, 4001}, {5, 5, -4001}, {math.MinInt64, math.MaxInt64, 0}} {
		if alt, e := Crossover(c[0], c[1], c[2]); alt != 0 || e != api.ErrArg {
			t.Errorf("Crossover(%v) = %d, %v", c, alt, e)
		}
	}
}

// P30.1 to P30.4, P30.6: arguments.
func TestErrors(t *testing.T) {
	for _, c := range []struct {
		f    func(v, alt, dev int64) (int64, api.Errno)
		most int64
	}{{TAS, 1000}, {CAS, 4000}, {Mach, 4000}, {OfMach, 2000}, {func(v, alt, dev int64) (int64, api.Errno) { return Schedule(v, 5, alt, dev) }, 1000}, {func(v, alt, dev int64) (int64, api.Errno) { return Schedule(5, v, alt, dev) }, 2000}} {
		for _, a := range []struct {
			v, alt, dev int64
			want        api.Errno
		}{{-1, api.MaxAlt + 1, 0, api.ErrArg}, {c.most + 1, 0, 0, api.ErrArg}, {math.MinInt64, 0, 0, api.ErrArg}, {5, api.MaxAlt + 1, 4001, api.ErrRange}, {5, api.MinAlt - 1, 0, api.ErrRange}, {5, 0, 4001, api.ErrArg}, {5, 0, -4001, api.ErrArg}} {
			if x, e := c.f(a.v, a.alt, a.dev); x != 0 || e != a.want {
				t.Errorf("%d: (%d, %d, %d) = %d, %v", c.most, a.v, a.alt, a.dev, x, e)
			}
		}
		if x, e := c.f(c.most, api.MaxAlt, 4000); e == api.ErrArg {
			t.Errorf("%d: %d, %v", c.most, x, e)
		}
	}
}

func TestExamples(t *testing.T) {
	for _, c := range []struct {
		f            func(v, alt, dev int64) (int64, api.Errno)
		v, alt, want int64
	}{{TAS, 250, 0, 250}, {TAS, 250, 1_000_000, 290}, {CAS, 290, 1_000_000, 250}, {CAS, 291, 1_000_000, 251}, {Mach, 661, 0, 999}, {OfMach, 1000, 0, 662}} {
		if x, e := c.f(c.v, c.alt, 0); x != c.want || e != api.OK {
			t.Errorf("%d at %d: %d, %v, want %d", c.v, c.alt, x, e, c.want)
		}
	}
	if x, e := Schedule(300, 780, 0, 0); x != 300 || e != api.OK {
		t.Errorf("Schedule: %d, %v", x, e)
	}
}

// P30.7, P30.8
func TestTexts(t *testing.T) {
	for v := int64(-2); v <= 2100; v++ {
		s, e := CASText(v)
		if v < 0 || v > 1000 {
			if s != "" || e != api.ErrArg {
				t.Errorf("CASText(%d) = %s, %v", v, s, e)
			}
		} else if w, mach, f := Parse(s); w != v || mach || f != api.OK || e != api.OK {
			t.Errorf("CASText(%d) = %s: %d, %v, %v", v, s, w, mach, f)
		}
		s, e = MachText(v)
		if v < 0 || v > 2000 {
			if s != "" || e != api.ErrArg {
				t.Errorf("MachText(%d) = %s, %v", v, s, e)
			}
		} else if w, mach, f := Parse(s); w != v || !mach || f != api.OK || e != api.OK {
			t.Errorf("MachText(%d) = %s: %d, %v, %v", v, s, w, mach, f)
		}
	}
	for v, want := range map[int64]string{250: "250KT", 0: "0KT"} {
		if s, _ := CASText(v); s != want {
			t.Errorf("CASText(%d) = %s", v, s)
		}
	}
	for v, want := range map[int64]string{780: "M.780", 1250: "M1.250", 5: "M.005", 0: "M.000", 2000: "M2.000", 1000: "M1.000"} {
		if s, _ := MachText(v); s != want {
			t.Errorf("MachText(%d) = %s", v, s)
		}
	}
	for s, want := range map[string]api.Errno{"": api.ErrForm, "KT": api.ErrForm, "250": api.ErrForm, "250K": api.ErrForm, "0250KT": api.ErrForm, "00KT": api.ErrForm, "-5KT": api.ErrForm, "2x0KT": api.ErrForm, "250kt": api.ErrForm, "250KTKT": api.ErrForm, "1001KT": api.ErrRange, "99999999999999999999KT": api.ErrRange, "M": api.ErrForm, "M.": api.ErrForm, "M.78": api.ErrForm, "M.7800": api.ErrForm, "M0.780": api.ErrForm, "M01.250": api.ErrForm, "M1": api.ErrForm, "M1250": api.ErrForm, ".780": api.ErrForm, "m.780": api.ErrForm, "M.7x0": api.ErrForm, "M-1.000": api.ErrForm, "M1.2.3": api.ErrForm, "M2.001": api.ErrRange, "M10.000": api.ErrRange, "M99999999999999999999.000": api.ErrRange, "M.780 ": api.ErrForm} {
		if v, mach, e := Parse(s); v != 0 || mach || e != want {
			t.Errorf("Parse(%q) = %d, %v, %v", s, v, mach, e)
		}
	}
}
