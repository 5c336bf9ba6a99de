package page

import (
	"strconv"
	"strings"

	"flightdeck/api"
	"flightdeck/leg"
	"flightdeck/modes"
	"flightdeck/record"
)

// body is how many lines a page has between its title and the last three lines.
const body = 2 * Rows

// line returns a line of a left and a right text.
func line(left, right string) string {
	right = right[:min(len(right), api.PageWidth)]
	left = left[:min(len(left), max(0, api.PageWidth-1-len(right)))]
	text := []byte(left + strings.Repeat(" ", api.PageWidth-len(left)-len(right)) + right)
	for i, b := range text {
		if b < ' ' || b > '~' {
			text[i] = '?'
		}
	}
	return string(text)
}

// Render returns the lines of the page.
func Render(t api.Terminal, v api.View) []string {
	t.First = max(t.First, 0)
	lines := []string{title(t, v)}
	switch t.Page {
	case api.LegsPage, api.DirectPage:
		lines = append(lines, rows(shown(v), t.First)...)
	case api.ProgressPage:
		lines = append(lines, progress(v)...)
	case api.MessagePage:
		for _, a := range v.Alerts[:min(len(v.Alerts), body)] {
			lines = append(lines, line(a, ""))
		}
	}
	for len(lines) < 1+body {
		lines = append(lines, line("", ""))
	}
	first, last := "", ""
	if len(v.Alerts) > 0 {
		first = v.Alerts[0]
	}
	if v.Last != api.OK {
		last = "E" + strconv.Itoa(int(v.Last))
	}
	m := modes.State{Lateral: v.Targets.Lateral, Vertical: v.Targets.Vertical, Phase: v.Targets.Phase}
	return append(lines, line(modes.Text(m), ""), line(first, last), line("["+t.Pad+"]", ""))
}

// title returns the first line.
func title(t api.Terminal, v api.View) string {
	name := "ACT "
	if v.HasTemp {
		name = "MOD "
	}
	switch t.Page {
	case api.LegsPage:
		name += "LEGS"
	case api.DirectPage:
		name += "DIR"
	case api.ProgressPage:
		name += "PROG"
	case api.MessagePage:
		name += "MSG"
	}
	pages := max(1, (len(shown(v).Entries)+Rows-1)/Rows)
	return line(name, strconv.Itoa(t.First/Rows+1)+"/"+strconv.Itoa(pages))
}

// rows returns the lines of the entries from an index on.
func rows(p api.Plan, first int) []string {
	var lines []string
	for row := range Rows {
		k := first + row // below 0, if the sum is too great for an int
		upper, lower := line("", ""), line("", "")
		if l, ok := legAt(p, k); ok {
			mark := ""
			if k == p.Active {
				mark = " <"
			}
			upper = line(leg.Name(l.Type)+mark, p.Entries[k].Via)
			lower = line(fixText(l), limits(l))
		} else if k >= 0 && k < len(p.Entries) {
			lower = line("- - - -", "GAP")
		}
		lines = append(lines, upper, lower)
	}
	return lines
}

// fixText returns the fix of a leg, or its type in parentheses.
func fixText(l api.Leg) string {
	if l.Fix == "" {
		return "(" + leg.Name(l.Type) + ")"
	}
	return l.Fix
}

// limits returns the altitudes and the speed of a leg.
func limits(l api.Leg) string {
	text, e := record.WindowText(l.Alt)
	if e != api.OK {
		text = "-"
	}
	if l.Speed != 0 {
		text += "/" + strconv.FormatInt(l.Speed, 10)
	}
	return text
}

// progress returns the lines of the progress page.
func progress(v api.View) []string {
	number := func(n int64) string { return strconv.FormatInt(n, 10) }
	active, _ := legAt(v.Active, v.Active.Active)
	left, _ := record.DistText(v.Left)
	alt, _ := record.AltText(v.Targets.Alt)
	usable, excluded := "NO", "NONE"
	if v.Estimate.Usable {
		usable = "YES"
	}
	if v.Estimate.Excluded != 0 {
		excluded = strconv.Itoa(v.Estimate.Excluded)
	}
	x := v.Estimate
	return []string{
		line("TO", active.Fix), line("LEFT", left), line("X", number(x.Point.X)), line("Y", number(x.Point.Y)),
		line("LEVELS", number(x.LevelX)+" "+number(x.LevelY)), line("REQUIRED", number(v.Required)), line("USABLE", usable), line("EXCLUDED", excluded),
		line("BANK", number(v.Targets.Bank)), line("ALT", alt),
	}
}
