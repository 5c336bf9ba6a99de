package lateral

import (
	"math"
	"testing"

	"flightdeck/api"
	"flightdeck/turn"
)

const deg = api.Degree

func pt(x, y int64) api.Point { return api.Point{X: x, Y: y} }

func straight() api.Element { return api.Element{A: pt(0, 0), B: pt(0, 10_000), Length: 10_000} }

// curved is a quarter of a right turn (left, if side is -1) from {0, 6000}.
func curved(side int64) api.Element {
	c := api.Arc{Center: pt(0, 0), Radius: 6000, From: 0, Sweep: side * 90 * deg}
	return api.Element{Curved: true, A: pt(0, 6000), B: pt(side*6000, 0), Circle: c, Length: turn.Length(c)}
}

// P50.1
func TestErrors(t *testing.T) {
	bank, _ := turn.Bank(150, 6000)
	short := curved(1)
	short.Length = 100
	negative := curved(1)
	negative.Length = -5
	long := curved(1)
	long.Length = 99_999
	for i, c := range []struct {
		x                    api.Element
		q                    api.Point
		track, speed         int64
		off, turned, nominal int64
	}{
		{straight(), pt(70, 500), 10 * deg, 250, 70, 10 * deg, 0},
		{straight(), pt(-70, -500), 350 * deg, 250, -70, -10 * deg, 0},
		{straight(), pt(0, 99_000), 180 * deg, 1, 0, 180 * deg, 0},
		{curved(1), pt(0, 5900), 90 * deg, 150, 100, 0, bank},
		{curved(1), pt(6100, 0), 170 * deg, 150, -100, -10 * deg, bank},
		{curved(1), pt(-100, 6000), 90 * deg, 150, 0, 0, bank},
		{curved(-1), pt(0, 5900), 270 * deg, 150, -100, 0, -bank},
		{curved(-1), pt(-6100, 0), 190 * deg, 150, 100, 10 * deg, -bank},
		{curved(1), pt(0, 6000), 90 * deg, 900, 0, 0, api.MaxBank},
		{curved(-1), pt(0, 6000), 270 * deg, 900, 0, 0, -api.MaxBank},
		{short, pt(6000, 0), 90*deg + 343_775, 150, 0, 0, bank},
		{negative, pt(6000, 0), 90 * deg, 150, 0, 0, bank},
		{long, pt(6000, 0), 180 * deg, 150, 0, 0, bank},
	} {
		off, turned, nominal, e := Errors(c.x, c.q, c.track, c.speed)
		if off != c.off || turned < c.turned-50 || turned > c.turned+50 || nominal != c.nominal || e != api.OK {
			t.Errorf("case %d: %d, %d, %d, %v", i, off, turned, nominal, e)
		}
	}
	_, course, _ := turn.At(curved(1).Circle, 1234)
	q, _, _ := turn.At(curved(1).Circle, 1234)
	if _, turned, _, e := Errors(curved(1), q, course, 150); turned < -20_000 || turned > 20_000 || e != api.OK {
		t.Errorf("on the arc: %d, %v", turned, e)
	}
	border := api.Element{Curved: true, Circle: api.Arc{Center: pt(2_000_000, 0), Radius: 10, From: 0, Sweep: 90 * deg}, Length: 16}
	for i, c := range []struct {
		x            api.Element
		q            api.Point
		track, speed int64
		want         api.Errno
	}{
		{straight(), pt(2_000_001, 0), -1, 250, api.ErrRange}, {straight(), pt(0, 0), api.Circle, 250, api.ErrRange}, {straight(), pt(0, 0), 0, 0, api.ErrRange}, {straight(), pt(0, 0), 0, 1001, api.ErrRange}, {straight(), pt(0, 0), math.MinInt64, math.MaxInt64, api.ErrRange},
		{straight(), pt(2_000_001, 0), 0, 250, api.ErrArg}, {api.Element{}, pt(0, 0), 0, 250, api.ErrGeom}, {curved(1), pt(0, 0), 0, 250, api.ErrGeom}, {api.Element{Curved: true}, pt(5, 5), 0, 250, api.ErrArg}, {border, pt(2_000_000, -5), 0, 250, api.ErrRange},
	} {
		off, turned, nominal, e := Errors(c.x, c.q, c.track, c.speed)
		if off != 0 || turned != 0 || nominal != 0 || e != c.want {
			t.Errorf("error case %d: %d, %d, %d, %v", i, off, turned, nominal, e)
		}
	}
}

// P50.2
func TestCommand(t *testing.T) {
	for i, c := range []struct{ off, turned, nominal, limit, want int64 }{
		{6000, 0, 0, 2500, -1125}, {0, 3_600_000, 0, 2500, -500}, {0, 0, 1800, 2500, 1800}, {-60_000, 0, 0, 2500, 2250}, {-12_000, 0, 0, 3000, 2250}, {-12_001, 0, 0, 3000, 2250},
		{0, 7199, 0, 2500, 0}, {0, -7199, 0, 2500, 0}, {0, 7200, 0, 2500, -1}, {0, -7201, 0, 2500, 1}, {0, 7200, 5, 2500, 4}, {1, 0, 0, 2500, 0}, {6, 0, 0, 2500, -1},
		{-60_000, 0, 1000, 2500, 2500}, {60_000, 0, -1000, 2500, -2500}, {0, 0, 9999, 9999, 3000}, {0, 0, -9999, 9999, -3000}, {0, 0, 100, -5, 0}, {0, 0, 100, 0, 0}, {0, 0, 100, 50, 50},
		{math.MinInt64, math.MinInt64, math.MinInt64, math.MinInt64, 0}, {math.MinInt64, math.MaxInt64, math.MaxInt64, math.MaxInt64, -3000}, {0, api.Half + 1, 0, 3000, -3000}, {0, math.MinInt64, 0, 3000, 3000}, {-12_000, 2 * api.Half, 3000, 3000, -3000},
	} {
		if got := Command(c.off, c.turned, c.nominal, c.limit); got != c.want {
			t.Errorf("case %d: %d", i, got)
		}
	}
	if got := Command(0, 5*api.Half, 3000, 3000); got != Command(0, api.Half, 3000, 3000) {
		t.Errorf("beyond half a circle: %d", got)
	}
}

// P50.3
func TestLimit(t *testing.T) {
	for i, c := range []struct{ last, want, rate, result int64 }{
		{0, 1000, 300, 300}, {0, -1000, 300, -300}, {0, 200, 300, 200}, {500, -1000, 300, 200}, {500, 700, 0, 500}, {500, 700, -9, 500}, {math.MaxInt64, math.MinInt64, math.MaxInt64, 0}, {math.MaxInt64 - 5, math.MaxInt64, 300, math.MaxInt64}, {math.MinInt64, math.MaxInt64, 1, math.MinInt64 + 1}, {math.MinInt64 + 5, math.MinInt64, 300, math.MinInt64}, {0, 5, math.MinInt64, 0},
	} {
		if got := Limit(c.last, c.want, c.rate); got != c.result {
			t.Errorf("case %d: %d", i, got)
		}
	}
}

// P50.4
func TestProperties(t *testing.T) {
	for off := int64(-20_000); off <= 20_000; off += 777 {
		for turned := int64(-api.Half); turned <= api.Half; turned += 9_999_991 {
			for nominal := int64(-4000); nominal <= 4000; nominal += 500 {
				for _, limit := range []int64{0, 1000, 3000} {
					got := Command(off, turned, nominal, limit)
					if max(got, -got) > limit {
						t.Fatalf("%d is above the limit %d", got, limit)
					}
					if Command(-off, -turned, -nominal, limit) != -got {
						t.Fatalf("the mirror image of %d, %d, %d", off, turned, nominal)
					}
					if off > 0 && got > Command(0, turned, nominal, limit) || Command(off, turned+8000, nominal, limit) > got {
						t.Fatalf("at %d, %d, %d: more to the right", off, turned, nominal)
					}
				}
			}
		}
	}
	for _, nominal := range []int64{-2000, 0, 1700} {
		if got := Command(0, 0, nominal, 2500); got != nominal {
			t.Errorf("on the path: %d", got)
		}
	}
}
