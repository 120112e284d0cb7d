// Package ranges reckons with ranges of numbers, and with states, which are a range of each register.
package ranges

import "surety/api"

// All is the range of all numbers.
func All() api.Range {
	return api.Range{Lo: api.Least, Hi: api.Most}
}

// Only is the range of one number.
func Only(n int) api.Range {
	return api.Range{Lo: n, Hi: n}
}

// IsEmpty tells whether a range has no number.
func IsEmpty(r api.Range) bool {
	return r.Lo > r.Hi
}

// Has tells whether a range has a number.
func Has(r api.Range, n int) bool {
	return r.Lo <= n && n <= r.Hi
}

// Common is what two ranges have in common.
func Common(r, other api.Range) api.Range {
	return api.Range{Lo: max(r.Lo, other.Lo), Hi: min(r.Hi, other.Hi)}
}

// LiesIn tells whether a range that is not empty has no numbers but those of another one.
func LiesIn(r, other api.Range) bool {
	return Common(r, other) == r
}

// Join is the range from the lesser Lo to the greater Hi.
func Join(r, other api.Range) api.Range {
	return api.Range{Lo: min(r.Lo, other.Lo), Hi: max(r.Hi, other.Hi)}
}

// Stretch is the join, but that each end which is not r's is as far off as can be.
func Stretch(r, other api.Range) api.Range {
	join := Join(r, other)
	if join.Lo != r.Lo {
		join.Lo = api.Least
	}
	if join.Hi != r.Hi {
		join.Hi = api.Most
	}
	return join
}

// AreOneNumber tells whether two ranges have just one number, the same.
func AreOneNumber(r, other api.Range) bool {
	return r == other && r == Only(r.Lo)
}
