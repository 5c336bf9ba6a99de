package record

import (
	"strconv"
	"strings"

	"flightdeck/api"
)

// vast is a number above all limits, in the place of one that may be too great to compute with.
const vast = 1 << 40

// whole reads decimal digits without a zero at the front of another digit. A number above vast is told as vast.
func whole(s string) (int64, bool) {
	if s == "" || len(s) > 1 && s[0] == '0' {
		return 0, false
	}
	var n int64
	for i := range len(s) {
		if !isDigit(s[i]) {
			return 0, false
		}
		n = min(vast, 10*n+int64(s[i]-'0'))
	}
	return n, true
}

// ParseNumber returns a decimal number from low to high.
func ParseNumber(s string, low, high int64) (int64, api.Errno) {
	digits, negative := strings.CutPrefix(s, "-")
	if _, ok := whole(digits); !ok || negative && digits == "0" {
		return 0, api.ErrForm
	}
	n, err := strconv.ParseInt(s, 10, 64)
	if err != nil || n < low || n > high {
		return 0, api.ErrRange
	}
	return n, api.OK
}

// AltText returns an altitude in feet.
func AltText(alt int64) (string, api.Errno) {
	if !validAlt(alt) {
		return "", api.ErrRange
	}
	sign := ""
	if alt < 0 {
		sign, alt = "-", -alt
	}
	s := sign + strconv.FormatInt(alt/api.Foot, 10)
	if part := alt % api.Foot; part > 0 {
		s += "." + strconv.FormatInt(part/10, 10) + strconv.FormatInt(part%10, 10)
	}
	return s, api.OK
}

func validAlt(alt int64) bool { return api.MinAlt <= alt && alt <= api.MaxAlt }

// ParseAlt returns the altitude that a text means.
func ParseAlt(s string) (int64, api.Errno) {
	alt, ok := altitude(s)
	if !ok {
		return 0, api.ErrForm
	}
	if !validAlt(alt) {
		return 0, api.ErrRange
	}
	return alt, api.OK
}

// altitude reads an altitude of any size, and reports whether it is written as AltText writes one.
func altitude(s string) (int64, bool) {
	s, negative := strings.CutPrefix(s, "-")
	feet, part, isPart := strings.Cut(s, ".")
	n, ok := whole(feet)
	if !ok {
		return 0, false
	}
	n *= api.Foot
	if isPart {
		if len(part) != 2 || !isDigit(part[0]) || !isDigit(part[1]) || part == "00" {
			return 0, false
		}
		n += 10*int64(part[0]-'0') + int64(part[1]-'0')
	}
	if negative {
		return -n, n != 0
	}
	return n, true
}

// WindowText returns the text of an altitude window.
func WindowText(w api.Window) (string, api.Errno) {
	lo, e := AltText(w.Lo)
	if e != api.OK {
		return "", api.ErrArg
	}
	hi, e := AltText(w.Hi)
	if e != api.OK || w.Lo > w.Hi {
		return "", api.ErrArg
	}
	switch {
	case w == api.Window{Lo: api.MinAlt, Hi: api.MaxAlt}:
		return "-", api.OK
	case w.Lo == w.Hi:
		return lo, api.OK
	case w.Hi == api.MaxAlt:
		return lo + "+", api.OK
	case w.Lo == api.MinAlt:
		return hi + "-", api.OK
	}
	return lo + ":" + hi, api.OK
}

// ParseWindow returns the altitude window that a text means.
func ParseWindow(s string) (api.Window, api.Errno) {
	w, ok := window(s)
	switch {
	case !ok:
		return api.Window{}, api.ErrForm
	case !validAlt(w.Lo) || !validAlt(w.Hi):
		return api.Window{}, api.ErrRange
	case w.Lo > w.Hi:
		return api.Window{}, api.ErrOrder
	}
	if text, e := WindowText(w); e != api.OK || text != s {
		return api.Window{}, api.ErrForm
	}
	return w, api.OK
}

// window reads a window with altitudes of any size and order, and reports whether it has one of the forms.
func window(s string) (api.Window, bool) {
	if s == "-" {
		return api.Window{Lo: api.MinAlt, Hi: api.MaxAlt}, true
	}
	if low, high, two := strings.Cut(s, ":"); two {
		lo, isLo := altitude(low)
		hi, isHi := altitude(high)
		return api.Window{Lo: lo, Hi: hi}, isLo && isHi
	}
	if low, ok := strings.CutSuffix(s, "+"); ok {
		lo, isLo := altitude(low)
		return api.Window{Lo: lo, Hi: api.MaxAlt}, isLo
	}
	if high, ok := strings.CutSuffix(s, "-"); ok {
		hi, isHi := altitude(high)
		return api.Window{Lo: api.MinAlt, Hi: hi}, isHi
	}
	alt, ok := altitude(s)
	return api.Window{Lo: alt, Hi: alt}, ok
}

// DistText returns a distance in nautical miles.
func DistText(d int64) (string, api.Errno) {
	if d < 0 || d > api.MaxDist {
		return "", api.ErrRange
	}
	s := strconv.FormatInt(d/api.NM, 10)
	if d%api.NM > 0 {
		s += "+" + strconv.FormatInt(d%api.NM, 10)
	}
	return s, api.OK
}

// ParseDist returns the distance that a text means.
func ParseDist(s string) (int64, api.Errno) {
	miles, units, isUnits := strings.Cut(s, "+")
	d, ok := whole(miles)
	if !ok {
		return 0, api.ErrForm
	}
	d *= api.NM
	if isUnits {
		n, ok := whole(units)
		if !ok || n < 1 || n >= api.NM {
			return 0, api.ErrForm
		}
		d += n
	}
	if d > api.MaxDist {
		return 0, api.ErrRange
	}
	return d, api.OK
}
