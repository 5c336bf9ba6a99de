package leg

import (
	"slices"
	"strconv"
	"strings"

	"flightdeck/angle"
	"flightdeck/api"
	"flightdeck/fix"
	"flightdeck/record"
)

// free is the window that is no restriction.
func free() api.Window { return api.Window{Lo: api.MinAlt, Hi: api.MaxAlt} }

// Text returns the text form of a leg that Check accepts, and "" for others.
func Text(l api.Leg) string {
	if Check(l) != api.OK {
		return ""
	}
	words := []string{Name(l.Type)}
	for _, p := range parts(&l) {
		if p.used {
			words = append(words, p.text())
		}
	}
	if l.Over {
		words = append(words, "over")
	}
	if l.Alt != free() {
		window, _ := record.WindowText(l.Alt)
		words = append(words, window)
	}
	if l.Speed != 0 {
		words = append(words, "s"+strconv.FormatInt(l.Speed, 10))
	}
	if l.RNP != 0 {
		words = append(words, "n"+dist(l.RNP))
	}
	return strings.Join(words, " ")
}

func dist(d int64) string {
	s, _ := record.DistText(d)
	return s
}

// part is a field that a type may use: how it is written, and how it is read into the leg.
type part struct {
	used bool
	text func() string
	read func(word string) bool
}

// parts returns the fields of a leg in the order of its text.
func parts(l *api.Leg) []part {
	u := uses[l.Type-1]
	return []part{
		{u&useFix != 0, func() string { return l.Fix }, func(w string) bool { return readRef(w, "", &l.Fix) }},
		{u&useCenter != 0, func() string { return "@" + l.Center }, func(w string) bool { return readRef(w, "@", &l.Center) }},
		{u&useTurn != 0, func() string { return "LR"[l.Turn-1 : l.Turn] }, func(w string) bool { return readTurn(w, &l.Turn) }},
		{u&useCourse != 0, func() string { return angle.Exact(l.Course) }, func(w string) bool { return readCourse(w, "", &l.Course) }},
		{u&useDist != 0, func() string { return "d" + dist(l.Dist) }, func(w string) bool { return readDist(w, "d", &l.Dist) }},
		{u&useRadius != 0, func() string { return "r" + dist(l.Radius) }, func(w string) bool { return readDist(w, "r", &l.Radius) }},
		{u&useTheta != 0, func() string { return "t" + angle.Exact(l.Theta) }, func(w string) bool { return readCourse(w, "t", &l.Theta) }},
	}
}

func readRef(word, mark string, ref *string) bool {
	r, ok := strings.CutPrefix(word, mark)
	if _, _, e := fix.SplitRef(r); !ok || e != api.OK {
		return false
	}
	*ref = r
	return true
}

func readTurn(word string, turn *byte) bool {
	switch word {
	case "L":
		*turn = api.Left
	case "R":
		*turn = api.Right
	default:
		return false
	}
	return true
}

func readCourse(word, mark string, course *int64) bool {
	digits, ok := strings.CutPrefix(word, mark)
	a, e := angle.ParseExact(digits)
	if !ok || e != api.OK {
		return false
	}
	*course = a
	return true
}

func readDist(word, mark string, d *int64) bool {
	digits, ok := strings.CutPrefix(word, mark)
	n, e := record.ParseDist(digits)
	if !ok || e != api.OK || n == 0 {
		return false
	}
	*d = n
	return true
}

func readOver(word string, over *bool) bool {
	if word != "over" {
		return false
	}
	*over = true
	return true
}

func readWindow(word string, alt *api.Window) bool {
	w, e := record.ParseWindow(word)
	if e != api.OK || w == free() {
		return false
	}
	*alt = w
	return true
}

func readSpeed(word string, speed *int64) bool {
	digits, ok := strings.CutPrefix(word, "s")
	if !ok || digits == "" || len(digits) > 4 || digits[0] == '0' {
		return false
	}
	var n int64
	for _, r := range digits {
		if r < '0' || r > '9' {
			return false
		}
		n = 10*n + int64(r-'0')
	}
	*speed = n
	return true
}

// typeOf returns the type with a name, 0 if there is none.
func typeOf(name string) api.LegType {
	for i, n := range names {
		if n == name {
			return api.LegType(i + 1)
		}
	}
	return 0
}

// Parse returns the leg of a text, or the column of the first error and its code.
func Parse(s string) (api.Leg, int, api.Errno) {
	words := strings.Split(s, " ")
	t := typeOf(words[0])
	if t == 0 {
		return api.Leg{}, 1, api.ErrForm
	}
	l := api.Leg{Type: t, Alt: free()}
	column := len(words[0]) + 2
	next := 1
	for _, p := range parts(&l) {
		if !p.used {
			continue
		}
		if next == len(words) || !p.read(words[next]) {
			return api.Leg{}, column, api.ErrForm
		}
		column += len(words[next]) + 1
		next++
	}
	if wrong := readRest(&l, words[next:]); wrong >= 0 {
		for _, w := range words[next : next+wrong] {
			column += len(w) + 1
		}
		return api.Leg{}, column, api.ErrForm
	}
	if e := Check(l); e != api.OK {
		return api.Leg{}, 0, e
	}
	return l, 0, api.OK
}

// readRest reads the words that may be left out, and returns the index of the first one that may not stand where it does, or -1.
func readRest(l *api.Leg, words []string) int {
	readers := []func(word string) bool{
		func(w string) bool { return readOver(w, &l.Over) },
		func(w string) bool { return readWindow(w, &l.Alt) },
		func(w string) bool { return readSpeed(w, &l.Speed) },
		func(w string) bool { return readDist(w, "n", &l.RNP) },
	}
	for i, w := range words {
		k := slices.IndexFunc(readers, func(read func(string) bool) bool { return read(w) })
		if k < 0 {
			return i
		}
		readers = readers[k+1:]
	}
	return -1
}
