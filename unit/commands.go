package unit

import (
	"strings"

	"flightdeck/api"
	"flightdeck/cycle"
	"flightdeck/edit"
	"flightdeck/modes"
	"flightdeck/record"
	"flightdeck/route"
)

// maxPicked is the greatest vertical speed that can be selected.
const maxPicked = 6000

// Do performs a command of the crew.
func (u *Unit) Do(command string) api.Errno {
	if u.none() {
		return api.ErrArg
	}
	u.last = u.perform(command)
	return u.last
}

// perform performs a command and returns its error.
func (u *Unit) perform(command string) api.Errno {
	word, argument, more := strings.Cut(command, " ")
	if more {
		if do, ok := u.worded()[word]; ok {
			return do(argument)
		}
	} else if do, ok := u.plain()[word]; ok {
		return do()
	}
	return api.ErrForm
}

// press returns a command that presses a key.
func (u *Unit) press(key uint32) func() api.Errno {
	return func() api.Errno {
		u.keys |= key
		return api.OK
	}
}

// plain returns the commands without an argument.
func (u *Unit) plain() map[string]func() api.Errno {
	return map[string]func() api.Errno{
		"UNDO": u.history.Undo, "REDO": u.history.Redo, "ERASE": u.history.Erase,
		"EXEC": u.execute, "SWAP": u.swap, "PATH": u.arm,
		"NAV": u.press(modes.Nav), "CHG": u.press(modes.Change), "HOLD": u.press(modes.Hold), "GA": u.press(modes.Go),
		"ACK": func() api.Errno {
			u.board.AckAll()
			return api.OK
		},
	}
}

// pick returns a command that selects a value, and presses a key if it has one.
func (u *Unit) pick(parse func(s string) (int64, api.Errno), value *int64, key uint32) func(string) api.Errno {
	return func(s string) api.Errno {
		v, e := parse(s)
		if e == api.OK {
			*value = v
			u.keys |= key
		}
		return e
	}
}

// number returns a function that reads a decimal number.
func number(low, high int64) func(string) (int64, api.Errno) {
	return func(s string) (int64, api.Errno) { return record.ParseNumber(s, low, high) }
}

// degrees reads a heading.
func degrees(s string) (int64, api.Errno) {
	n, e := record.ParseNumber(s, 0, 359)
	return n * api.Degree, e
}

// worded returns the commands with an argument.
func (u *Unit) worded() map[string]func(string) api.Errno {
	return map[string]func(string) api.Errno{
		"EDIT": u.edit, "ROUTE": u.replace,
		"HDG": u.pick(degrees, &u.picked.heading, modes.Heading),
		"ALT": u.pick(record.ParseAlt, &u.picked.alt, 0),
		"VS":  u.pick(number(-maxPicked, maxPicked), &u.picked.vs, modes.Speed),
		"SPD": u.pick(number(0, api.MaxSpeed), &u.picked.speed, 0),
	}
}

// edit edits the temporary plan.
func (u *Unit) edit(text string) api.Errno {
	x, e := edit.Parse(text)
	if e != api.OK {
		return e
	}
	return u.history.Do(u.db(), x)
}

// replace makes the plan of a route the temporary one.
func (u *Unit) replace(text string) api.Errno {
	p, _, e := route.Expand(u.db(), text)
	if e != api.OK {
		return e
	}
	return u.history.Replace(p)
}

// execute makes the temporary plan the active one and builds its path.
func (u *Unit) execute() api.Errno {
	if e := u.history.Execute(); e != api.OK {
		return e
	}
	active := u.history.Active()
	b := beginning{u.estimate.Point, u.past.track, u.past.alt, u.past.fuel, active.Active}
	f, e := fly(active, b, u.set)
	u.flight = f
	if e == api.OK {
		u.advance()
	}
	return e
}

// advance makes the entry of the progress the active leg, if it is a later one.
func (u *Unit) advance() {
	if len(u.flight.path.Elements) > 0 && u.flight.progress.Entry > u.history.Active().Active {
		u.history.Advance(u.flight.progress.Entry)
	}
}

// swap makes the other database the current one.
func (u *Unit) swap() api.Errno {
	phase := u.modes.Phase
	if _, temp := u.history.Temp(); temp || phase != api.PhasePreflight && phase != api.PhaseLanded {
		return api.ErrState
	}
	other := u.set.DBs[1-u.current]
	if other.Header.Name == "" {
		return api.ErrNone
	}
	if !effective(other.Header, u.set.Day) {
		return api.ErrCycle
	}
	if !cycle.Same(u.history.Active(), u.db(), other) {
		return api.ErrConflict
	}
	u.current = 1 - u.current
	return api.OK
}

// effective reports whether a database is effective on a day.
func effective(h api.Header, day int64) bool { return day >= h.From && day < h.To }

// arm arms the vertical path.
func (u *Unit) arm() api.Errno {
	if !u.flight.predicted() {
		return api.ErrState
	}
	u.picked.armed = true
	return api.OK
}
