package console

import (
	"fmt"
	"math/rand"
	"reflect"
	"strings"
	"testing"

	"flightdeck/api"
	"flightdeck/maintlog"
	"flightdeck/page"
	"flightdeck/resync"
)

// expect performs lines, each with its answer.
func expect(t *testing.T, x *System, pairs ...string) {
	t.Helper()
	for i := 0; i < len(pairs); i += 2 {
		if got := x.Do(pairs[i]); got != pairs[i+1] {
			t.Errorf("%q: %q, not %q", pairs[i], got, pairs[i+1])
		}
	}
}

// last returns what happened in the last cycles.
func last(x *System, n int) []api.Happening {
	l := x.Record()
	return l[len(l)-n:]
}

// P60.5: the examples
func TestLineExamples(t *testing.T) {
	x := begin(t, scenario(t))
	expect(t, x, "STATE", "POINT 0 0 ALT 500000 HEADING 0 FUEL 60000000 TICK 0", "CYCLE 0", "ERROR 4", "LOG", "")
	s := scenario(t)
	s.Craft = api.Craft{Tick: 5, Point: pt(-3, 7), Alt: -100, Heading: 9, Fuel: 11}
	expect(t, begin(t, s), "STATE", "POINT -3 7 ALT -100 HEADING 9 FUEL 11 TICK 5")
}

// P60.5: what is no line, or not as told
func TestLineErrors(t *testing.T) {
	x := begin(t, scenario(t))
	for _, line := range []string{
		"", " ", "X", "cycle 1", " CYCLE 1", "CYCLE", "CYCLE ", "CYCLE 1 ", "CYCLE 1 1", "CYCLE  1", "CYCLE 61", "CYCLE -1", "CYCLE 01", "CYCLE +1", "CYCLE 1.0", "CYCLE 1\n", "CYCLE 99999999999999999999", "CYCLE1",
		"WIND 1", "WIND 1 2 3", "WIND 201 0", "WIND 0 -201", "WIND -0 0", "WIND a 0", "WIND 1  2", "SLIP 21 0", "SLIP 0 -21", "SLIP 1",
		"ERROR 8 0 0", "ERROR -1 0 0", "ERROR 0 2000001 0", "ERROR 0 0 -2000001", "ERROR 0 0", "ERROR 0 0 0 0", "SILENT 256", "SILENT -1", "SILENT", "THRUST 2", "THRUST -1", "THRUST", "STOPPED 2", "STOPPED", "STOPPED 1 1",
		"CMD", "CMD 1", "CMD 0 ACK", "CMD 3 ACK", "CMD 01 ACK", "CMD  1 ACK", "CMD ACK", "CMD 1\tACK", "CMD 1 A\x1FB", "CMD 1 A\x7F", "CMD 2 \u00E4", "CMD 1 " + strings.Repeat("A", 121),
		"KEY", "KEY 1", "KEY 0 A", "KEY 3 A", "KEY  1 A", "KEY A",
		"STOP 0", "STOP 3", "STOP", "STOP 1 2", "RESTART 0", "RESTART 3", "RESTART", "CORRUPT 0", "CORRUPT 3", "CORRUPT",
		"WRONG 0 1", "WRONG 3 1", "WRONG 1", "WRONG 1 2000001", "WRONG 1 -2000001", "LOSE 0 1", "LOSE 3 1", "LOSE 1 0", "LOSE 1 5", "LOSE 1",
		"PAGE", "PAGE 0", "PAGE 3", "PAGE 1 1", "STATE ", "STATE 1", "LOG ", "LOG 1", "OK", "CYCLE 1\r",
	} {
		expect(t, x, line, "ERROR 4")
	}
	cycle(t, x, api.Happening{})
	expect(t, x, "KEY 1 ", "ERROR 1", "KEY 1 AA", "ERROR 1", "KEY 2 a", "ERROR 1", "KEY 2 A ", "ERROR 1", fmt.Sprintf("KEY 1 %s", "EXEC"), fmt.Sprintf("ERROR %d", int(api.ErrState)))
	if !reflect.DeepEqual(x.pending, api.Happening{}) || x.terminals != [2]api.Terminal{page.Start(), page.Start()} || x.Craft().Tick != 10 {
		t.Errorf("%v %v", x.pending, x.terminals)
	}
}

// P60.5: what the lines set, and what stays of it
func TestPending(t *testing.T) {
	x := begin(t, scenario(t))
	long := strings.Repeat(" ~", 60)
	for _, line := range []string{
		"WIND 10 10", "WIND -200 200", "SLIP 20 -20", "ERROR 3 -2000000 2000000", "ERROR 1 5 -6", "SILENT 255", "SILENT 128", "THRUST 1", "STOPPED 1", "CMD 1 x", "CMD 1 HDG  5 ", "CMD 2 " + long,
		"STOP 2", "RESTART 1", "CORRUPT 1", "CORRUPT 2", "WRONG 1 2000000", "WRONG 2 -2000000", "LOSE 1 1", "LOSE 2 4", "LOSE 1 3",
	} {
		expect(t, x, line, "OK")
	}
	x.Do("CYCLE 3")
	want := api.Happening{
		Moment: api.Moment{Wind: api.Wind{East: -200, North: 200}, Slip: api.Velocity{East: 20, North: -20}, Errors: [][2]int64{{}, {5, -6}, {}, {-2_000_000, 2_000_000}}, Silent: 128, Thrust: true, Stopped: true, Commands: [2]string{"HDG  5 ", long}},
		Stop:   [2]bool{false, true}, Restart: [2]bool{true, false}, Corrupt: [2]bool{true, true}, Wrong: [2]int64{2_000_000, -2_000_000},
	}
	want.Fates[0][0].Lost, want.Fates[0][2].Lost, want.Fates[1][3].Lost = true, true, true
	l := last(x, 3)
	if !reflect.DeepEqual(l[0], want) {
		t.Errorf("%v, not %v", l[0], want)
	}
	stays := api.Happening{Moment: api.Moment{Wind: want.Moment.Wind, Slip: want.Moment.Slip, Errors: want.Moment.Errors, Thrust: true, Stopped: true}}
	if !reflect.DeepEqual(l[1], stays) || !reflect.DeepEqual(l[2], stays) {
		t.Errorf("%v and %v, not %v", l[1], l[2], stays)
	}
	x.Run("THRUST 0\nERROR 1 0 0\nERROR 4 1 1\nCMD 1 A\nCMD 1 \nSTOPPED 1\nCYCLE 1")
	stays.Moment.Thrust, stays.Moment.Errors = false, [][2]int64{{}, {}, {}, {-2_000_000, 2_000_000}, {1, 1}}
	if l := last(x, 1); !reflect.DeepEqual(l[0], stays) {
		t.Errorf("%v, not %v", l[0], stays)
	}
	if l := x.Record(); l[1].Moment.Errors[1] != [2]int64{5, -6} {
		t.Errorf("a recording that changes: %v", l[1])
	}
}

// P60.5: the answer to CYCLE is that of the last cycle
func TestCycleAnswer(t *testing.T) {
	s := scenario(t)
	x, y := begin(t, s), begin(t, s)
	x.Run("WIND 10 -20\nCMD 1 HDG 90\nCMD 2 ALT 9000")
	h := api.Happening{Moment: api.Moment{Wind: api.Wind{East: 10, North: -20}, Commands: [2]string{"HDG 90", "ALT 9000"}}}
	for i, n := range []int{1, 60, 7, 1} {
		var r api.Summary
		for range n {
			r = cycle(t, y, h)
			h = api.Happening{Moment: api.Moment{Wind: h.Moment.Wind}}
		}
		want := fmt.Sprintf("CYCLE %d TICK %d STATUS %d %d SOURCE %d BANK %d SPEED %d ALT %d VS %d", r.Cycle, r.Tick, r.Status[0], r.Status[1], r.Source, r.InUse.Bank, r.InUse.Speed, r.InUse.Alt, r.InUse.VS)
		expect(t, x, fmt.Sprintf("CYCLE %d", n), want)
		if i == 1 && (r.Cycle != 61 || r.Tick != 610 || r.InUse.Speed != 280) {
			t.Errorf("%v", r)
		}
	}
	same(t, x, y)
}

// P60.5: CYCLE ends at the first error
func TestCycleEnds(t *testing.T) {
	s := scenario(t)
	s.Craft.Point = pt(0, api.MaxXY-6_000)
	x := begin(t, s)
	expect(t, x, "CMD 1 NAV", "OK", "THRUST 1", "OK", "SILENT 1", "OK", "CYCLE 60", "ERROR 2", "CYCLE 1", "ERROR 2")
	if n := len(x.Record()); n < 1 || n > 3 || x.Craft().Tick != int64(10*n) {
		t.Errorf("%d cycles, %v", n, x.Craft())
	}
	if !reflect.DeepEqual(x.pending, api.Happening{Moment: api.Moment{Thrust: true}}) {
		t.Errorf("%v", x.pending)
	}
}

// P60.5: the keys of a terminal, and its page
func TestKeys(t *testing.T) {
	x := begin(t, scenario(t))
	x.Run("CMD 1 " + long + "\nCYCLE 5\nCMD 1 EXEC\nCYCLE 5")
	if len(x.View(1).Active.Entries) < 4 {
		t.Fatalf("%v", x.View(1).Active)
	}
	keys := []string{"C", "/", "K", "1", "L4"}
	for _, key := range keys {
		expect(t, x, "KEY 1 "+key, "OK")
	}
	var command string
	terminal := page.Start()
	for _, key := range keys {
		terminal, command, _ = page.Press(terminal, x.View(1), key)
	}
	if x.terminals[0] != terminal || x.terminals[1] != page.Start() || command == "" {
		t.Fatalf("%v, not %v", x.terminals, terminal)
	}
	expect(t, x, "KEY 2 MSG", "OK", "KEY 2 Q", "OK")
	if x.pending.Moment.Commands != [2]string{command, ""} {
		t.Errorf("%v", x.pending.Moment.Commands)
	}
	x.Do("CYCLE 2")
	if got := last(x, 2); got[0].Moment.Commands != [2]string{command, ""} || got[1].Moment.Commands != [2]string{} {
		t.Errorf("%v", got)
	}
	if !x.View(1).HasTemp {
		t.Errorf("no temporary plan")
	}
	expect(t, x, "KEY 1 ERASE", "OK", "CMD 1 ACK", "OK")
	if x.pending.Moment.Commands[0] != "ACK" {
		t.Errorf("%v", x.pending)
	}
	expect(t, x, "KEY 1 UNDO", "OK")
	if x.pending.Moment.Commands[0] != "UNDO" {
		t.Errorf("%v", x.pending)
	}
	for i, name := range []string{"PAGE 1", "PAGE 2"} {
		want := page.Render(x.terminals[i], x.View(i+1))
		if got := x.Do(name); got != strings.Join(want, "\n") || len(got) != 14*25-1 {
			t.Errorf("%q", got)
		}
	}
	if !strings.Contains(x.Do("PAGE 2"), "MSG") || !strings.Contains(x.Do("PAGE 2"), "[Q]") || !strings.Contains(x.Do("PAGE 1"), "MOD LEGS") {
		t.Errorf("%s", x.Do("PAGE 2"))
	}
}

// P60.5: LOG
func TestLogLine(t *testing.T) {
	x := begin(t, scenario(t))
	expect(t, x, "LOSE 1 1", "OK", "LOSE 2 1", "OK", "CYCLE 1", "CYCLE 1 TICK 10 STATUS 2 2 SOURCE 0 BANK 0 SPEED 0 ALT 0 VS 0", "LOG", "1 10 102 1\n2 10 202 1\n")
	x.Run("CYCLE 20\nSTOP 1\nCYCLE 3")
	if x.Do("LOG") != maintlog.Text(x.Faults()) || len(x.Faults()) < 3 {
		t.Errorf("%q", x.Do("LOG"))
	}
}

// P60.6
func TestRun(t *testing.T) {
	state := "POINT 0 0 ALT 500000 HEADING 0 FUEL 60000000 TICK 0\n"
	for text, want := range map[string]string{
		"": "ERROR 4\n", "\n": "ERROR 4\nERROR 4\n", "STATE": state, "STATE\n": state + "ERROR 4\n", "STATE\r\nSTATE": "ERROR 4\n" + state, "LOG\nWIND 1 1": "\nOK\n", "\nLOG": "ERROR 4\n\n",
	} {
		if got := begin(t, scenario(t)).Run(text); got != want {
			t.Errorf("%q: %q, not %q", text, got, want)
		}
	}
	x, y := begin(t, scenario(t)), begin(t, scenario(t))
	lines := []string{"WIND 5 5", "CYCLE 9", "PAGE 1", "STOP 1", "CYCLE 1", "LOG", "STATE", "X"}
	var want strings.Builder
	for _, line := range lines {
		want.WriteString(y.Do(line) + "\n")
	}
	if got := x.Run(strings.Join(lines, "\n")); got != want.String() {
		t.Errorf("%q, not %q", got, want.String())
	}
}

// P60.4, P60.5, P60.6: any lines are answered the same again, and the recording replays
func TestRandomLines(t *testing.T) {
	random := rand.New(rand.NewSource(605))
	words := []string{"CYCLE", "WIND", "SLIP", "ERROR", "SILENT", "THRUST", "STOPPED", "CMD", "KEY", "STOP", "RESTART", "CORRUPT", "WRONG", "LOSE", "PAGE", "STATE", "LOG"}
	counts := []int{1, 2, 2, 3, 1, 1, 1, 2, 2, 1, 1, 1, 2, 2, 1, 0, 0}
	for range 8 {
		s := scenario(t)
		var lines []string
		for range 150 {
			k := random.Intn(len(words))
			line := words[k]
			for range counts[k] {
				line += fmt.Sprintf(" %d", random.Intn(5))
			}
			switch {
			case words[k] == "CMD":
				line = fmt.Sprintf("CMD %d %s", 1+random.Intn(2), crew[random.Intn(len(crew))])
			case words[k] == "KEY":
				line = fmt.Sprintf("KEY %d %s", 1+random.Intn(2), page.Keys()[random.Intn(len(page.Keys()))])
			}
			lines = append(lines, line)
		}
		text := strings.Join(lines, "\n")
		x, y := begin(t, s), begin(t, s)
		if a, b := x.Run(text), y.Run(text); a != b {
			t.Fatalf("%q and %q", a, b)
		}
		same(t, x, y)
		z, _, e := Replay(s, x.Record())
		if e != api.OK {
			t.Fatal(e)
		}
		same(t, x, z)
	}
}

// P60.1, P60.2: the targets in use move with the rates of the scenario
func TestRates(t *testing.T) {
	s := scenario(t)
	s.Rates = [4]int64{100, 7, 5_000, 30}
	x := begin(t, s)
	x.Run("CMD 1 HDG 90\nCYCLE 3\nCMD 1 ALT 20000\nCYCLE 1\nCMD 1 CHG\nCYCLE 1")
	rates := resync.Rates{Bank: 100, Speed: 7, Alt: 5_000, VS: 30}
	before := x.pair.InUse()
	for range 60 {
		r := cycle(t, x, api.Happening{})
		if r.InUse != resync.Limit(before, r.Targets[0], rates) {
			t.Fatalf("%v", r)
		}
		before = r.InUse
	}
	if before.Bank == 0 && before.VS == 0 {
		t.Errorf("%v", before)
	}
}

// The whole: a plan is flown from its first leg to its last one, though the wind changes and one computer fails on the way.
func TestFlight(t *testing.T) {
	x := begin(t, scenario(t))
	x.Run("CMD 1 " + long + "\nCYCLE 4\nCMD 2 EXEC\nCYCLE 1\nCMD 1 NAV\nCYCLE 1")
	for i := range 60 {
		if v := x.View(2); v.Targets.Lateral != api.LatNav && v.Targets.Lateral != api.LatArmed {
			break
		}
		for computer := 1; computer <= 2; computer++ {
			if v := x.View(computer); i != 21 && !reflect.DeepEqual(v, x.View(1)) {
				t.Fatalf("%d: the views differ", i)
			}
		}
		x.Do(fmt.Sprintf("WIND %d %d", i%40-20, 20-i%30))
		switch i {
		case 20:
			x.Do("STOP 1")
		case 21:
			x.Do("RESTART 1")
		}
		x.Do("CYCLE 5")
	}
	v := x.View(2)
	if v.Progress.Entry < 4 || v.Active.Active < 4 || v.Targets.Lateral != api.LatApproach {
		t.Errorf("%v %d %v", v.Progress, v.Active.Active, v.Targets)
	}
	if c := x.Craft().Point; c.X < -6000 || c.X > 6000 || c.Y < 500_000 {
		t.Errorf("%v", c)
	}
}

// P60.5: the least and the greatest numbers, and a key that sends nothing
func TestLineEdges(t *testing.T) {
	x := begin(t, scenario(t))
	for _, line := range []string{"ERROR 7 3 4", "ERROR 0 1 2", "SILENT 1", "SILENT 0", "WIND 200 -200", "SLIP -20 20", "CMD 2 HDG 9", "KEY 2 PROG", "KEY 2 A", "LOSE 2 1", "LOSE 1 4"} {
		expect(t, x, line, "OK")
	}
	x.Do("CYCLE 1")
	want := api.Happening{Moment: api.Moment{Wind: api.Wind{East: 200, North: -200}, Slip: api.Velocity{East: -20, North: 20}, Errors: [][2]int64{0: {1, 2}, 7: {3, 4}}, Commands: [2]string{"", "HDG 9"}}}
	want.Fates[1][0].Lost, want.Fates[0][3].Lost = true, true
	if got := last(x, 1)[0]; !reflect.DeepEqual(got, want) {
		t.Errorf("%v, not %v", got, want)
	}
}
