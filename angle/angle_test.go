package angle

import (
	"fmt"
	"math"
	"math/big"
	"testing"

	"flightdeck/api"
)

const deg = api.Degree

func samples() []int64 {
	l := []int64{0, 1, -1, 2, deg, 10 * deg, 350 * deg, api.Quarter, api.Half - 1, api.Half, api.Half + 1, api.Circle - 1, api.Circle, api.Circle + 1, 5*api.Circle + 7, math.MaxInt64, math.MaxInt64 - 1, math.MinInt64, math.MinInt64 + 1}
	for _, a := range l {
		l = append(l, -a)
	}
	return l
}

// norm is the exact normalized sum.
func norm(l ...int64) int64 {
	s := new(big.Int)
	for _, a := range l {
		s.Add(s, big.NewInt(a))
	}
	return s.Mod(s, big.NewInt(api.Circle)).Int64()
}

// minus is the exact normalized difference.
func minus(a, b int64) int64 {
	d := new(big.Int).Sub(big.NewInt(a), big.NewInt(b))
	return d.Mod(d, big.NewInt(api.Circle)).Int64()
}

// P4.1, P4.2, P4.3
func TestDirections(t *testing.T) {
	for _, a := range samples() {
		if got := Norm(a); got != norm(a) {
			t.Errorf("Norm(%d) = %d", a, got)
		}
		if got := Opposite(a); got != norm(a, api.Half) {
			t.Errorf("Opposite(%d) = %d", a, got)
		}
		for _, b := range samples() {
			if got := Turn(a, b); got != norm(a, b) {
				t.Errorf("Turn(%d, %d) = %d", a, b, got)
			}
			d := minus(b, a)
			if d > api.Half {
				d -= api.Circle
			}
			if got := Diff(a, b); got != d {
				t.Errorf("Diff(%d, %d) = %d, want %d", a, b, got, d)
			}
			half := d / 2
			if d < 0 && d%2 != 0 {
				half--
			}
			if got := Middle(a, b); got != norm(a, half) {
				t.Errorf("Middle(%d, %d) = %d", a, b, got)
			}
			right, left := minus(b, a), minus(a, b)
			if Sweep(a, b, api.Right) != right || Sweep(a, b, api.Left) != left {
				t.Errorf("Sweep(%d, %d)", a, b)
			}
			for _, turn := range []byte{0, 3, 255} {
				if Sweep(a, b, turn) != 0 {
					t.Errorf("Sweep(%d, %d, %d)", a, b, turn)
				}
			}
			for _, sweep := range samples() {
				want := sweep >= 0 && right <= sweep
				if sweep < 0 {
					want = big.NewInt(left).Cmp(new(big.Int).Neg(big.NewInt(sweep))) <= 0
				}
				if Within(b, a, sweep) != want {
					t.Errorf("Within(%d, %d, %d)", b, a, sweep)
				}
			}
		}
	}
}

func TestExamples(t *testing.T) {
	for _, c := range [][2]int64{{Norm(-1), 129_599_999}, {Diff(350*deg, 10*deg), 20 * deg}, {Diff(0, api.Half), api.Half}, {Diff(api.Half, 0), api.Half}, {Diff(10*deg, 350*deg), -20 * deg}, {Middle(10*deg, 350*deg), 0}, {Middle(0, -1), api.Circle - 1}} {
		if c[0] != c[1] {
			t.Errorf("%d, want %d", c[0], c[1])
		}
	}
	if s, e := LatText(47*deg + 26*minute + 50*second + 12); s != "N47265012" || e != api.OK {
		t.Errorf("%s %v", s, e)
	}
	if s, e := LonText(-1); s != "W000000001" || e != api.OK {
		t.Errorf("%s %v", s, e)
	}
	if s := CourseText(90*deg + 55*deg/100); s != "0906" {
		t.Errorf("%s", s)
	}
	if s := CourseText(359*deg + 95*deg/100); s != "0000" {
		t.Errorf("%s", s)
	}
	if s := Exact(-1); s != "359595999" {
		t.Errorf("%s", s)
	}
}

// P4.4, P4.5: what has a text is read back.
func TestPositions(t *testing.T) {
	for _, a := range []int64{0, 1, -1, 99, -100, 5999, -6000, deg - 1, deg, -deg, 47*deg + 5012, api.Quarter - 1, api.Quarter, api.Quarter + 1, -api.Quarter, -api.Quarter - 1, 100 * deg, api.Half - 1, api.Half, api.Half + 1, -api.Half, -api.Half + 1, -api.Half - 1, math.MaxInt64, math.MinInt64} {
		s, e := LatText(a)
		if a < -api.Quarter || a > api.Quarter {
			if s != "" || e != api.ErrRange {
				t.Errorf("LatText(%d) = %s, %v", a, s, e)
			}
		} else if b, f := ParseLat(s); e != api.OK || len(s) != 9 || b != a || f != api.OK {
			t.Errorf("latitude %d: %s, %v, %d, %v", a, s, e, b, f)
		}
		s, e = LonText(a)
		if a <= -api.Half || a > api.Half {
			if s != "" || e != api.ErrRange {
				t.Errorf("LonText(%d) = %s, %v", a, s, e)
			}
		} else if b, f := ParseLon(s); e != api.OK || len(s) != 10 || b != a || f != api.OK {
			t.Errorf("longitude %d: %s, %v, %d, %v", a, s, e, b, f)
		}
		p := api.Pos{Lat: -5 * deg, Lon: a}
		s, e = PosText(p)
		if a <= -api.Half || a > api.Half {
			if s != "" || e != api.ErrRange {
				t.Errorf("PosText(%v) = %s, %v", p, s, e)
			}
		} else if q, f := ParsePos(s); e != api.OK || q != p || f != api.OK {
			t.Errorf("PosText(%v) = %s, %v, %v, %v", p, s, e, q, f)
		}
	}
	if s, e := PosText(api.Pos{Lat: api.Quarter + 1}); s != "" || e != api.ErrRange {
		t.Errorf("PosText: %s, %v", s, e)
	}
}

// P4.5
func TestParseErrors(t *testing.T) {
	lat := map[string]api.Errno{"": api.ErrForm, "N": api.ErrForm, "S00000000": api.ErrForm, "N00000000": api.OK, "S00000001": api.OK, "N0000000": api.ErrForm, "N000000000": api.ErrForm, "E00000000": api.ErrForm, "n00000000": api.ErrForm, "N0000000x": api.ErrForm, "N-1000000": api.ErrForm, "N00600000": api.ErrForm, "N00006000": api.ErrForm, "N00595999": api.OK, "N90000000": api.OK, "N90000001": api.ErrRange, "S99595999": api.ErrRange, "N99600000": api.ErrForm}
	for s, want := range lat {
		if a, e := ParseLat(s); e != want || e != api.OK && a != 0 {
			t.Errorf("ParseLat(%q) = %d, %v", s, a, e)
		}
	}
	lon := map[string]api.Errno{"": api.ErrForm, "W000000000": api.ErrForm, "E000000000": api.OK, "W180000000": api.ErrRange, "E180000000": api.OK, "W179595999": api.OK, "E180000001": api.ErrRange, "N000000000": api.ErrForm, "E00000000": api.ErrForm, "E0000000000": api.ErrForm, "E000600000": api.ErrForm, "E000006000": api.ErrForm, "E00000000 ": api.ErrForm, "E999595999": api.ErrRange}
	for s, want := range lon {
		if a, e := ParseLon(s); e != want || e != api.OK && a != 0 {
			t.Errorf("ParseLon(%q) = %d, %v", s, a, e)
		}
	}
	pos := map[string]api.Errno{"": api.ErrForm, "N00000000E000000000": api.OK, "N00000000E00000000": api.ErrForm, "N00000000E0000000000": api.ErrForm, "N90000001E0000000000": api.ErrForm, "N90000001x000000000": api.ErrRange, "N00000000W180000000": api.ErrRange, "S00000000W180000000": api.ErrForm, "N00000000x000000000": api.ErrForm}
	for s, want := range pos {
		if p, e := ParsePos(s); e != want || e != api.OK && p != (api.Pos{}) {
			t.Errorf("ParsePos(%q) = %v, %v", s, p, e)
		}
	}
}

// P4.6
func TestCourses(t *testing.T) {
	for i := range int64(3600) {
		s := fmt.Sprintf("%04d", i)
		if a, e := ParseCourse(s); a != i*tenth || e != api.OK {
			t.Errorf("ParseCourse(%s) = %d, %v", s, a, e)
		}
		for _, off := range []int64{-tenth / 2, 0, tenth/2 - 1, api.Circle, -api.Circle} {
			if got := CourseText(i*tenth + off); got != s {
				t.Errorf("CourseText(%d) = %s, want %s", i*tenth+off, got, s)
			}
		}
	}
	for s, want := range map[string]api.Errno{"": api.ErrForm, "090": api.ErrForm, "00900": api.ErrForm, "09x0": api.ErrForm, "-900": api.ErrForm, "3599": api.OK, "3600": api.ErrRange, "9999": api.ErrRange} {
		if a, e := ParseCourse(s); e != want || e != api.OK && a != 0 {
			t.Errorf("ParseCourse(%q) = %d, %v", s, a, e)
		}
	}
}

// P4.7
func TestExact(t *testing.T) {
	for _, a := range samples() {
		s := Exact(a)
		if b, e := ParseExact(s); len(s) != 9 || b != Norm(a) || e != api.OK {
			t.Errorf("Exact(%d) = %s: %d, %v", a, s, b, e)
		}
	}
	for s, want := range map[string]api.Errno{"": api.ErrForm, "35959599": api.ErrForm, "3595959990": api.ErrForm, "359595999": api.OK, "000600000": api.ErrForm, "000006000": api.ErrForm, "360000000": api.ErrRange, "999595999": api.ErrRange, "999600000": api.ErrForm, "00000000x": api.ErrForm, "-00000001": api.ErrForm} {
		if a, e := ParseExact(s); e != want || e != api.OK && a != 0 {
			t.Errorf("ParseExact(%q) = %d, %v", s, a, e)
		}
	}
}
