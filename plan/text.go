package plan

import (
	"math"
	"strconv"
	"strings"

	"flightdeck/api"
	"flightdeck/leg"
	"flightdeck/record"
)

// none stands in the text for what is not there.
const none = "-"

// sections has the letters of the sections, in their order.
const sections = "DEAPM"

// orNone returns s, or the sign for nothing.
func orNone(s string) string {
	if s == "" {
		return none
	}
	return s
}

// Text returns the text form of a plan that Check accepts, and "" for others.
func Text(p api.Plan) string {
	if Check(p) != api.OK {
		return ""
	}
	lines := []string{"PLAN " + orNone(p.From) + " " + orNone(p.To) + " " + strconv.Itoa(p.Active)}
	for _, x := range p.Entries {
		lines = append(lines, entryText(x))
	}
	return strings.Join(lines, "\n")
}

func entryText(x api.Entry) string {
	if x.Gap {
		return "GAP"
	}
	return strings.Join([]string{sections[x.Section-1 : x.Section], orNone(x.Via), pointText(x.End, x.Leg.Fix), pointText(x.Mid, x.Leg.Center), leg.Text(x.Leg)}, " ")
}

// pointText returns the text of the point of a fix.
func pointText(p api.Point, ref string) string {
	if ref == "" {
		return none
	}
	return strconv.FormatInt(p.X, 10) + "," + strconv.FormatInt(p.Y, 10)
}

// Parse returns the plan of a text.
func Parse(s string) (api.Plan, api.Errno) {
	lines := strings.Split(s, "\n")
	words := strings.Split(lines[0], " ")
	if len(words) != 4 || words[0] != "PLAN" {
		return api.Plan{}, api.ErrForm
	}
	active, e := record.ParseNumber(words[3], -1, api.MaxEntries)
	if e != api.OK {
		return api.Plan{}, api.ErrForm
	}
	p := api.Plan{From: parseNone(words[1]), To: parseNone(words[2]), Active: int(active)}
	for _, l := range lines[1:] {
		x, ok := parseEntry(l)
		if !ok {
			return api.Plan{}, api.ErrForm
		}
		p.Entries = append(p.Entries, x)
	}
	// What is read is looser than what is written.
	if Text(p) != s {
		return api.Plan{}, api.ErrForm
	}
	return p, api.OK
}

func parseNone(s string) string {
	if s == none {
		return ""
	}
	return s
}

func parseEntry(s string) (api.Entry, bool) {
	if s == "GAP" {
		return api.Entry{Gap: true}, true
	}
	words := strings.SplitN(s, " ", 5)
	if len(words) != 5 || len(words[0]) != 1 {
		return api.Entry{}, false
	}
	l, _, e := leg.Parse(words[4])
	end, isEnd := parsePoint(words[2])
	mid, isMid := parsePoint(words[3])
	section := strings.Index(sections, words[0]) + 1
	return api.Entry{Leg: l, End: end, Mid: mid, Section: api.Section(section), Via: parseNone(words[1])}, e == api.OK && isEnd && isMid
}

func parsePoint(s string) (api.Point, bool) {
	if s == none {
		return api.Point{}, true
	}
	first, second, _ := strings.Cut(s, ",")
	x, e := record.ParseNumber(first, math.MinInt64, math.MaxInt64)
	y, f := record.ParseNumber(second, math.MinInt64, math.MaxInt64)
	return api.Point{X: x, Y: y}, e == api.OK && f == api.OK
}
