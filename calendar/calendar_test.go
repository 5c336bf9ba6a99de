package calendar

import (
	"fmt"
	"math"
	"testing"
	"time"

	"flightdeck/api"
)

func epoch() time.Time { return time.Date(2000, 1, 1, 0, 0, 0, 0, time.UTC) }

// P5.1
func TestYears(t *testing.T) {
	for y := 1990; y < 2110; y++ {
		inside := y >= 2000 && y <= 2099
		if Leap(y) != (inside && y%4 == 0) {
			t.Errorf("Leap(%d)", y)
		}
		for m := -1; m < 15; m++ {
			want := 0
			if inside && m >= 1 && m <= 12 {
				want = time.Date(y, time.Month(m)+1, 0, 0, 0, 0, 0, time.UTC).Day()
			}
			if got := MonthDays(y, m); got != want {
				t.Errorf("MonthDays(%d, %d) = %d", y, m, got)
			}
		}
	}
	for _, y := range []int{math.MinInt, math.MaxInt, -4, 0, 4} {
		if Leap(y) || MonthDays(y, 2) != 0 || MonthDays(2000, y) != map[bool]int{true: 30}[y == 4] {
			t.Errorf("year or month %d", y)
		}
	}
}

// P5.2, P5.3, P5.4: every day against the library's calendar.
func TestEveryDay(t *testing.T) {
	for day := int64(0); day <= LastDay; day++ {
		when := epoch().AddDate(0, 0, int(day))
		y, m, d, e := Date(day)
		if y != when.Year() || m != int(when.Month()) || d != when.Day() || e != api.OK {
			t.Fatalf("Date(%d) = %d %d %d %v", day, y, m, d, e)
		}
		if got, e := Days(y, m, d); got != day || e != api.OK {
			t.Fatalf("Days(%d, %d, %d) = %d, %v", y, m, d, got, e)
		}
		if got := Weekday(day); got != (int(when.Weekday())+6)%7+1 {
			t.Fatalf("Weekday(%d) = %d", day, got)
		}
		s, e := DateText(day)
		if s != when.Format("2006-01-02") || e != api.OK {
			t.Fatalf("DateText(%d) = %s, %v", day, s, e)
		}
		if got, e := ParseDate(s); got != day || e != api.OK {
			t.Fatalf("ParseDate(%s) = %d, %v", s, got, e)
		}
	}
	for _, day := range []int64{-1, LastDay + 1, math.MinInt64, math.MaxInt64} {
		y, m, d, e := Date(day)
		s, f := DateText(day)
		if y != 0 || m != 0 || d != 0 || e != api.ErrRange || s != "" || f != api.ErrRange || Weekday(day) != 0 {
			t.Errorf("day %d: %d %d %d %v %s %v", day, y, m, d, e, s, f)
		}
	}
}

// P5.2
func TestDaysErrors(t *testing.T) {
	for _, c := range []struct {
		y, m, d int
		want    api.Errno
	}{{1999, 12, 31, api.ErrRange}, {2100, 13, 1, api.ErrRange}, {2000, 0, 1, api.ErrArg}, {2000, 13, 1, api.ErrArg}, {2001, 2, 29, api.ErrArg}, {2000, 2, 30, api.ErrArg}, {2000, 4, 31, api.ErrArg}, {2000, 1, 0, api.ErrArg}, {2000, 1, 32, api.ErrArg}, {2000, 1, -5, api.ErrArg}, {2000, -1, 1, api.ErrArg}} {
		if day, e := Days(c.y, c.m, c.d); day != 0 || e != c.want {
			t.Errorf("Days(%d, %d, %d) = %d, %v", c.y, c.m, c.d, day, e)
		}
	}
}

// P5.4
func TestParseDateErrors(t *testing.T) {
	for s, want := range map[string]api.Errno{"": api.ErrForm, "2000-3-01": api.ErrForm, "2000-03-1": api.ErrForm, "2000/03/01": api.ErrForm, "2000-03/01": api.ErrForm, "20x0-03-01": api.ErrForm, "2000-0x-01": api.ErrForm, "2000-03-x1": api.ErrForm, "2000-03-01 ": api.ErrForm, "02000-03-01": api.ErrForm, "-200-03-01": api.ErrForm, "1999-13-01": api.ErrRange, "2100-01-01": api.ErrRange, "2000-13-01": api.ErrArg, "2001-02-29": api.ErrArg, "2000-00-10": api.ErrArg} {
		if day, e := ParseDate(s); day != 0 || e != want {
			t.Errorf("ParseDate(%q) = %d, %v", s, day, e)
		}
	}
}

// P5.5
func TestInstants(t *testing.T) {
	for _, day := range []int64{0, 1, 60, LastDay - 1, LastDay} {
		for _, clock := range []int64{0, 1, 99, 100, 143_999} {
			tick, e := Join(day, clock)
			if tick != day*144_000+clock || e != api.OK {
				t.Errorf("Join(%d, %d) = %d, %v", day, clock, tick, e)
			}
			if d, c, e := Split(tick); d != day || c != clock || e != api.OK {
				t.Errorf("Split(%d) = %d, %d, %v", tick, d, c, e)
			}
		}
	}
	for _, c := range [][2]int64{{-1, 0}, {LastDay + 1, 0}, {0, -1}, {0, 144_000}, {math.MaxInt64, math.MaxInt64}, {math.MinInt64, 0}} {
		if tick, e := Join(c[0], c[1]); tick != 0 || e != api.ErrRange {
			t.Errorf("Join(%v) = %d, %v", c, tick, e)
		}
	}
	for _, tick := range []int64{-1, (LastDay + 1) * 144_000, math.MaxInt64, math.MinInt64} {
		if d, c, e := Split(tick); d != 0 || c != 0 || e != api.ErrRange {
			t.Errorf("Split(%d) = %d, %d, %v", tick, d, c, e)
		}
	}
	if d, c, e := Split((LastDay+1)*144_000 - 1); d != LastDay || c != 143_999 || e != api.OK {
		t.Errorf("last instant: %d, %d, %v", d, c, e)
	}
}

// P5.6
func TestClocks(t *testing.T) {
	for clock := int64(0); clock < 144_000; clock++ {
		s, e := ClockText(clock)
		if want := fmt.Sprintf("%02d:%02d", clock/6000, clock/100%60); s != want || e != api.OK {
			t.Fatalf("ClockText(%d) = %s, %v", clock, s, e)
		}
		if got, e := ParseClock(s); got != clock/100*100 || e != api.OK {
			t.Fatalf("ParseClock(%s) = %d, %v", s, got, e)
		}
	}
	for _, clock := range []int64{-1, 144_000, math.MaxInt64, math.MinInt64} {
		if s, e := ClockText(clock); s != "" || e != api.ErrRange {
			t.Errorf("ClockText(%d) = %s, %v", clock, s, e)
		}
	}
	for s, want := range map[string]api.Errno{"": api.ErrForm, "1:00": api.ErrForm, "01:0": api.ErrForm, "01-00": api.ErrForm, "0100": api.ErrForm, "x1:00": api.ErrForm, "01:x0": api.ErrForm, "01:000": api.ErrForm, "+1:00": api.ErrForm, "24:00": api.ErrRange, "23:60": api.ErrRange, "99:99": api.ErrRange} {
		if clock, e := ParseClock(s); clock != 0 || e != want {
			t.Errorf("ParseClock(%q) = %d, %v", s, clock, e)
		}
	}
}

// P5.7, P5.8, P5.9: the numbers of all cycles, counted year by year.
func TestCycles(t *testing.T) {
	exists := map[int64]int64{}
	last, position := 0, int64(0)
	var numbers []int64
	for from := int64(FirstFrom); from <= LastDay; from += 28 {
		y := epoch().AddDate(0, 0, int(from)).Year()
		if y != last {
			last, position = y, 0
		}
		position++
		number := int64(y-2000)*100 + position
		exists[number] = from
		numbers = append(numbers, number)
		for day := from; day < from+28 && day <= LastDay; day++ {
			if n, f, to, e := Cycle(day); n != number || f != from || to != from+28 || e != api.OK {
				t.Fatalf("Cycle(%d) = %d, %d, %d, %v, want %d", day, n, f, to, e, number)
			}
		}
	}
	for number := int64(0); number <= 9999; number++ {
		from, to, e := CycleDays(number)
		s, f := CycleText(number)
		text := fmt.Sprintf("%04d", number)
		n, g := ParseCycle(text)
		if first, ok := exists[number]; ok {
			if from != first || to != first+28 || e != api.OK || s != text || f != api.OK || n != number || g != api.OK {
				t.Errorf("cycle %d: %d %d %v %s %v %d %v", number, from, to, e, s, f, n, g)
			}
		} else if from != 0 || to != 0 || e != api.ErrNone || s != "" || f != api.ErrNone || n != 0 || g != api.ErrNone {
			t.Errorf("no cycle %d: %d %d %v %s %v %d %v", number, from, to, e, s, f, n, g)
		}
	}
	for i, number := range numbers {
		for _, j := range []int{-1, 0, i - 1, i, i + 1, i + 14, len(numbers) - 1, len(numbers)} {
			n, e := Later(number, int64(j-i))
			if j >= 0 && j < len(numbers) {
				if n != numbers[j] || e != api.OK {
					t.Errorf("Later(%d, %d) = %d, %v", number, j-i, n, e)
				}
			} else if n != 0 || e != api.ErrRange {
				t.Errorf("Later(%d, %d) = %d, %v", number, j-i, n, e)
			}
		}
	}
}

// P5.7, P5.8, P5.9
func TestCycleErrors(t *testing.T) {
	for _, day := range []int64{-1, 0, 25, LastDay + 1, math.MaxInt64, math.MinInt64} {
		if n, from, to, e := Cycle(day); n != 0 || from != 0 || to != 0 || e != api.ErrRange {
			t.Errorf("Cycle(%d) = %d %d %d %v", day, n, from, to, e)
		}
	}
	for _, number := range []int64{-1, 10_000, math.MaxInt64, math.MinInt64} {
		from, to, e := CycleDays(number)
		s, f := CycleText(number)
		n, g := Later(number, 0)
		if from != 0 || to != 0 || e != api.ErrRange || s != "" || f != api.ErrRange || n != 0 || g != api.ErrRange {
			t.Errorf("cycle %d: %d %d %v %s %v %d %v", number, from, to, e, s, f, n, g)
		}
	}
	for _, c := range []struct {
		number, n int64
		want      api.Errno
	}{{1, math.MaxInt64, api.ErrRange}, {1, math.MinInt64, api.ErrRange}, {2014, math.MaxInt64, api.ErrRange}, {2015, 1, api.ErrNone}, {1, -1, api.ErrRange}} {
		if n, e := Later(c.number, c.n); n != 0 || e != c.want {
			t.Errorf("Later(%d, %d) = %d, %v", c.number, c.n, n, e)
		}
	}
	for s, want := range map[string]api.Errno{"": api.ErrForm, "001": api.ErrForm, "00001": api.ErrForm, "000x": api.ErrForm, "-001": api.ErrForm, "0000": api.ErrNone, "0014": api.ErrNone, "2015": api.ErrNone} {
		if n, e := ParseCycle(s); n != 0 || e != want {
			t.Errorf("ParseCycle(%q) = %d, %v", s, n, e)
		}
	}
}

// The examples of the chapter.
func TestExamples(t *testing.T) {
	if d, e := Days(2000, 3, 1); d != 60 || e != api.OK {
		t.Errorf("%d %v", d, e)
	}
	if d, e := Days(2099, 12, 31); d != 36_524 || e != api.OK {
		t.Errorf("%d %v", d, e)
	}
	if Weekday(0) != 6 || Weekday(60) != 3 {
		t.Errorf("weekdays")
	}
	day, _ := Days(2020, 1, 2)
	if n, from, to, e := Cycle(day); n != 2001 || from != 7306 || to != 7334 || e != api.OK {
		t.Errorf("%d %d %d %v", n, from, to, e)
	}
	if from, to, e := CycleDays(2014); from != 7670 || to != 7698 || e != api.OK {
		t.Errorf("%d %d %v", from, to, e)
	}
	if n, e := Later(2014, 1); n != 2101 || e != api.OK {
		t.Errorf("%d %v", n, e)
	}
}
