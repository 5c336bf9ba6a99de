package atmosphere

import (
	"math"
	"testing"

	"flightdeck/api"
)

// P29.1, P29.3, P29.4, P29.5: exact results (altitude, deviation, pressure, temperature, sound, ratio).
func TestExact(t *testing.T) {
	for _, c := range [][6]int64{
		{-200000, 0, 1074400, 29211, 10656, 971400},
		{0, -4000, 1000000, 24815, 9821, 930591},
		{3608900, -1231, 224366, 20434, 8912, 1804727},
		{3090646, -4000, 285814, 18691, 8523, 1548670},
		{2779364, 4000, 329698, 27308, 10303, 1681789},
		{3608899, 728, 224366, 22393, 9330, 1867414},
		{462358, 4000, 844647, 31898, 11135, 1145849},
		{5621910, 0, 85318, 21665, 9177, 2980069},
		{3608901, -4000, 224366, 17665, 8286, 1716122},
		{-200000, -1653, 1074400, 27558, 10350, 943537},
		{3608900, 0, 224366, 21665, 9177, 1844119},
		{4455597, -4000, 149016, 17665, 8286, 2093700},
		{3994901, -4000, 185611, 17665, 8286, 1873527},
		{5052568, -831, 111924, 20834, 8999, 2559760},
		{422442, -4000, 858059, 23978, 9654, 991367},
		{3069770, 4000, 288390, 26733, 10194, 1772474},
		{574619, 0, 810464, 27676, 10372, 1090194},
		{500001, 2740, 831999, 30564, 10900, 1128519},
		{0, 0, 1000000, 28815, 10583, 1000000},
		{4577991, -2102, 140664, 19563, 8720, 2233404},
		{6000000, 0, 70800, 21665, 9177, 3259100},
		{5240012, 4000, 102739, 25665, 9988, 2908695},
		{5715653, 877, 81718, 22542, 9361, 3095653},
		{59128, 3319, 980132, 32016, 11156, 1067258},
		{250_000, 0, 916_000, 28_319, 10_492, 1_038_650},
		{0, 0, 1_000_000, 28_815, 10_583, 1_000_000},
	} {
		alt, dev := c[0], c[1]
		if p, e := Pressure(alt); p != c[2] || e != api.OK {
			t.Errorf("Pressure(%d) = %d, %v", alt, p, e)
		}
		if x, e := Temperature(alt, dev); x != c[3] || e != api.OK {
			t.Errorf("Temperature(%d, %d) = %d, %v", alt, dev, x, e)
		}
		if x, e := Sound(alt, dev); x != c[4] || e != api.OK {
			t.Errorf("Sound(%d, %d) = %d, %v", alt, dev, x, e)
		}
		if x, e := Ratio(alt, dev); x != c[5] || e != api.OK {
			t.Errorf("Ratio(%d, %d) = %d, %v", alt, dev, x, e)
		}
	}
	if x, e := Temperature(4_000_000, -100); x != 21_565 || e != api.OK {
		t.Errorf("Temperature: %d, %v", x, e)
	}
}

// P29.1, P29.3, P29.5: the rows of the tables.
func TestRows(t *testing.T) {
	for _, c := range [][3]int64{{-2000, 1074400, 971400}, {0, 1000000, 1000000}, {5000, 832000, 1077300}, {10000, 687700, 1163700}, {15000, 564300, 1260600}, {20000, 459500, 1370000}, {25000, 371100, 1493800}, {30000, 297000, 1634900}, {35000, 235300, 1796400}, {40000, 185100, 2015500}, {45000, 145500, 2272700}, {50000, 114500, 2562800}, {55000, 90000, 2890100}, {60000, 70800, 3259100}} {
		p, _ := Pressure(c[0] * 100)
		r, _ := Ratio(c[0]*100, 0)
		if p != c[1] || r != c[2] {
			t.Errorf("at %d ft: %d, %d", c[0], p, r)
		}
	}
	for feet, want := range map[int64]int64{-2000: 29_211, 0: 28_815, 36_089: 21_665, 60_000: 21_665, 50_000: 21_665} {
		if x, _ := Temperature(feet*100, 0); x != want {
			t.Errorf("at %d ft: %d", feet, x)
		}
	}
}

// P29.2
func TestLevel(t *testing.T) {
	for p := int64(70_800); p < 1_080_000; p += 997 {
		alt, e := Level(p)
		at, _ := Pressure(alt)
		below, f := Pressure(alt - 1)
		if e != api.OK || at > p || f == api.OK && below <= p {
			t.Errorf("Level(%d) = %d, %v: %d there, %d below", p, alt, e, at, below)
		}
	}
	for p, want := range map[int64]int64{1_000_000: -2, 2_000_000: api.MinAlt, 1_074_400: api.MinAlt, 1_074_399: api.MinAlt + 1, 70_800: 5_999_974, math.MaxInt64: api.MinAlt} {
		if alt, e := Level(p); alt != want || e != api.OK {
			t.Errorf("Level(%d) = %d, %v", p, alt, e)
		}
	}
	for _, p := range []int64{70_799, 0, -1, math.MinInt64} {
		if alt, e := Level(p); alt != 0 || e != api.ErrRange {
			t.Errorf("Level(%d) = %d, %v", p, alt, e)
		}
	}
}

// P29.1, P29.3, P29.4, P29.5
func TestErrors(t *testing.T) {
	for _, c := range []struct {
		alt, dev int64
		want     api.Errno
	}{{api.MinAlt - 1, 0, api.ErrRange}, {api.MaxAlt + 1, 4001, api.ErrRange}, {math.MinInt64, math.MaxInt64, api.ErrRange}, {math.MaxInt64, 0, api.ErrRange}, {0, 4001, api.ErrArg}, {0, -4001, api.ErrArg}, {0, math.MinInt64, api.ErrArg}} {
		for name, f := range map[string]func(alt, dev int64) (int64, api.Errno){"Temperature": Temperature, "Sound": Sound, "Ratio": Ratio} {
			if x, e := f(c.alt, c.dev); x != 0 || e != c.want {
				t.Errorf("%s(%d, %d) = %d, %v", name, c.alt, c.dev, x, e)
			}
		}
		if p, e := Pressure(c.alt); c.want == api.ErrRange && (p != 0 || e != api.ErrRange) {
			t.Errorf("Pressure(%d) = %d, %v", c.alt, p, e)
		}
	}
}
