package performance

import (
	"strconv"
	"strings"

	"flightdeck/api"
	"flightdeck/record"
)

// Text returns the text form of a performance.
func Text(p api.Perf) (string, api.Errno) {
	if e := Check(p); e != api.OK {
		return "", e
	}
	var b strings.Builder
	b.WriteString("PERF " + p.Name + numbers(p.Empty, p.MaxFuel, p.Ref, p.Extra) + " " + altitude(p.Ceiling) + "\n")
	b.WriteString("MASSES" + numbers(p.Masses...) + "\n")
	b.WriteString("MINSPEED" + numbers(p.MinSpeed...) + "\n")
	for i, alt := range p.Alts {
		b.WriteString("ROW " + altitude(alt) + numbers(p.Descent[i], p.Idle[i], p.MaxSpeed[i]) + "\n")
		b.WriteString("CLIMB" + numbers(p.Climb[i]...) + "\n")
		b.WriteString("CLIMBFLOW" + numbers(p.ClimbFlow[i]...) + "\n")
		b.WriteString("CRUISE" + numbers(p.Cruise[i]...) + "\n")
	}
	return b.String(), api.OK
}

// numbers returns numbers, each behind a blank.
func numbers(l ...int64) string {
	s := ""
	for _, v := range l {
		s += " " + strconv.FormatInt(v, 10)
	}
	return s
}

func altitude(alt int64) string {
	s, _ := record.AltText(alt)
	return s
}

// reader takes the fields of a record of a performance.
type reader struct{ *record.Scanner }

// number takes a number.
func (r reader) number() int64 { return r.Number(0, api.MaxMass) }

// list takes the numbers of a row.
func (r reader) list() []int64 {
	l := []int64{r.number()}
	for r.Left() > 0 && len(l) < MaxColumns {
		l = append(l, r.number())
	}
	return l
}

// take takes a record of the performance; its word is the one that is due.
func take(r reader, word string, p *api.Perf) {
	if r.Word(word) < 0 {
		return
	}
	switch word {
	case "PERF":
		p.Name = r.Name(maxName)
		p.Empty, p.MaxFuel, p.Ref, p.Extra = r.number(), r.number(), r.number(), r.number()
		p.Ceiling = r.Alt()
	case "MASSES":
		p.Masses = r.list()
	case "MINSPEED":
		p.MinSpeed = r.list()
	case "ROW":
		if len(p.Alts) == MaxRows {
			r.Fail(api.ErrLimit)
		}
		p.Alts = append(p.Alts, r.Alt())
		p.Descent = append(p.Descent, r.number())
		p.Idle = append(p.Idle, r.number())
		p.MaxSpeed = append(p.MaxSpeed, r.number())
	case "CLIMB":
		p.Climb = append(p.Climb, r.list())
	case "CLIMBFLOW":
		p.ClimbFlow = append(p.ClimbFlow, r.list())
	case "CRUISE":
		p.Cruise = append(p.Cruise, r.list())
	}
}

// next returns the word that is due behind a word.
func next(word string) string {
	return map[string]string{"": "PERF", "PERF": "MASSES", "MASSES": "MINSPEED", "MINSPEED": "ROW", "ROW": "CLIMB", "CLIMB": "CLIMBFLOW", "CLIMBFLOW": "CRUISE", "CRUISE": "ROW"}[word]
}

// Parse returns the performance of a text, and its diagnostics.
func Parse(s string) (api.Perf, []api.Diag) {
	records, diags := record.Read(s)
	if len(diags) > 0 {
		return api.Perf{}, diags
	}
	var p api.Perf
	word, behind := "", 1
	for _, l := range records {
		word, behind = next(word), l.Number+1
		r := reader{record.Scan(l)}
		take(r, word, &p)
		if d, failed := r.End(); failed {
			return api.Perf{}, []api.Diag{d}
		}
	}
	if word != "CRUISE" {
		return api.Perf{}, []api.Diag{{Line: behind, Column: 1, Code: api.ErrForm}}
	}
	if e := Check(p); e != api.OK {
		return api.Perf{}, []api.Diag{{Line: records[0].Number, Column: records[0].Fields[0].Column, Code: e}}
	}
	return p, nil
}
