package console

import (
	"slices"
	"strconv"
	"strings"

	"flightdeck/api"
	"flightdeck/maintlog"
	"flightdeck/page"
	"flightdeck/record"
	"flightdeck/simulator"
	"flightdeck/unit"
)

// done is the answer to a line that needs no other one.
const done = "OK"

// refused returns the answer to a line with an error.
func refused(e api.Errno) string { return "ERROR " + strconv.Itoa(int(e)) }

// span is the range of a number.
type span struct{ low, high int64 }

// order is what a line of numbers does: how many there are, from where to where, and the answer.
type order struct {
	spans []span
	do    func(v []int64) string
}

// read returns the numbers of an order.
func (o order) read(words []string) ([]int64, bool) {
	if len(words) != len(o.spans) {
		return nil, false
	}
	var numbers []int64
	for i, w := range words {
		n, e := record.ParseNumber(w, o.spans[i].low, o.spans[i].high)
		if e != api.OK {
			return nil, false
		}
		numbers = append(numbers, n)
	}
	return numbers, true
}

// Do performs a line of the console and returns its answer.
func (s *System) Do(line string) string {
	if s.none() {
		return refused(api.ErrArg)
	}
	words := strings.Split(line, " ")
	switch words[0] {
	case "CMD":
		return s.text(line, s.command)
	case "KEY":
		return s.text(line, s.key)
	}
	o, ok := s.orders()[words[0]]
	if !ok {
		return refused(api.ErrForm)
	}
	numbers, ok := o.read(words[1:])
	if !ok {
		return refused(api.ErrForm)
	}
	return o.do(numbers)
}

// Run performs lines and returns their answers, one a line.
func (s *System) Run(text string) string {
	if s.none() {
		return ""
	}
	var b strings.Builder
	for line := range strings.SplitSeq(text, "\n") {
		b.WriteString(s.Do(line))
		b.WriteByte('\n')
	}
	return b.String()
}

// set returns an order that only keeps something.
func set(keep func(v []int64), spans ...span) order {
	return order{spans, func(v []int64) string {
		keep(v)
		return done
	}}
}

// orders returns the lines of numbers, by their first words.
func (s *System) orders() map[string]order {
	h := &s.pending
	m := &h.Moment
	computer, flag := span{1, 2}, span{0, 1}
	wind, slip, offset := span{-simulator.MaxWind, simulator.MaxWind}, span{-simulator.Drift, simulator.Drift}, span{-api.MaxXY, api.MaxXY}
	return map[string]order{
		"WIND":    set(func(v []int64) { m.Wind = api.Wind{East: v[0], North: v[1]} }, wind, wind),
		"SLIP":    set(func(v []int64) { m.Slip = api.Velocity{East: v[0], North: v[1]} }, slip, slip),
		"ERROR":   set(func(v []int64) { m.Errors = withErrors(m.Errors, int(v[0]), [2]int64{v[1], v[2]}) }, span{0, simulator.MaxSensors - 1}, offset, offset),
		"SILENT":  set(func(v []int64) { m.Silent = uint16(v[0]) }, span{0, 255}),
		"THRUST":  set(func(v []int64) { m.Thrust = v[0] == 1 }, flag),
		"STOPPED": set(func(v []int64) { m.Stopped = v[0] == 1 }, flag),
		"STOP":    set(func(v []int64) { h.Stop[v[0]-1] = true }, computer),
		"RESTART": set(func(v []int64) { h.Restart[v[0]-1] = true }, computer),
		"CORRUPT": set(func(v []int64) { h.Corrupt[v[0]-1] = true }, computer),
		"WRONG":   set(func(v []int64) { h.Wrong[v[0]-1] = v[1] }, computer, offset),
		"LOSE":    set(func(v []int64) { h.Fates[v[0]-1][v[1]-1].Lost = true }, computer, span{1, 4}),
		"CYCLE":   {[]span{{1, MaxCycles}}, func(v []int64) string { return s.cycles(v[0]) }},
		"PAGE":    {[]span{computer}, func(v []int64) string { return s.page(int(v[0])) }},
		"STATE":   {nil, func(v []int64) string { return s.state() }},
		"LOG":     {nil, func(v []int64) string { return maintlog.Text(s.Faults()) }},
	}
}

// withErrors returns the errors of the sensors with those of one of them.
func withErrors(l [][2]int64, i int, x [2]int64) [][2]int64 {
	l = slices.Clone(l)
	for len(l) <= i {
		l = append(l, [2]int64{})
	}
	l[i] = x
	return l
}

// text performs a line of a computer and a text behind one blank each.
func (s *System) text(line string, do func(computer int, text string) string) string {
	parts := strings.SplitN(line, " ", 3)
	if len(parts) < 3 || parts[1] != "1" && parts[1] != "2" {
		return refused(api.ErrForm)
	}
	return do(int(parts[1][0]-'0'), parts[2])
}

// command is the command of the crew in the next cycle.
func (s *System) command(computer int, text string) string {
	if len(text) > unit.MaxText {
		return refused(api.ErrForm)
	}
	for i := range len(text) {
		if text[i] < ' ' || text[i] > '~' {
			return refused(api.ErrForm)
		}
	}
	s.pending.Moment.Commands[computer-1] = text
	return done
}

// key presses a key of a terminal.
func (s *System) key(computer int, name string) string {
	terminal, command, e := page.Press(s.terminals[computer-1], s.View(computer), name)
	if e != api.OK {
		return refused(e)
	}
	s.terminals[computer-1] = terminal
	if command != "" {
		s.pending.Moment.Commands[computer-1] = command
	}
	return done
}

// cycles makes cycles, the first one with what is pending.
func (s *System) cycles(n int64) string {
	h := s.pending
	m := h.Moment
	stays := api.Happening{Moment: api.Moment{Wind: m.Wind, Errors: m.Errors, Slip: m.Slip, Thrust: m.Thrust, Stopped: m.Stopped}}
	s.pending = stays
	var answer string
	for range n {
		r, e := s.Cycle(h)
		if e != api.OK {
			return refused(e)
		}
		answer = summary(r)
		h = stays
	}
	return answer
}

// field is a word and the number behind it.
type field struct {
	word   string
	number int64
}

// fields returns fields with one blank between; a word that is empty is left out.
func fields(l ...field) string {
	var words []string
	for _, f := range l {
		if f.word != "" {
			words = append(words, f.word)
		}
		words = append(words, strconv.FormatInt(f.number, 10))
	}
	return strings.Join(words, " ")
}

// summary returns the answer to a cycle.
func summary(r api.Summary) string {
	t := r.InUse
	return fields(field{"CYCLE", r.Cycle}, field{"TICK", r.Tick}, field{"STATUS", int64(r.Status[0])}, field{"", int64(r.Status[1])}, field{"SOURCE", int64(r.Source)},
		field{"BANK", t.Bank}, field{"SPEED", t.Speed}, field{"ALT", t.Alt}, field{"VS", t.VS})
}

// page returns the lines of the terminal of a computer.
func (s *System) page(computer int) string {
	return strings.Join(page.Render(s.terminals[computer-1], s.View(computer)), "\n")
}

// state returns the state of the aircraft.
func (s *System) state() string {
	c := s.craft
	return fields(field{"POINT", c.Point.X}, field{"", c.Point.Y}, field{"ALT", c.Alt}, field{"HEADING", c.Heading}, field{"FUEL", c.Fuel}, field{"TICK", c.Tick})
}
