package machine

import (
	"surety/api"
	"surety/ranges"
)

// goOn is how a state goes by an instruction that changes no range and does not jump.
func goOn(s api.State) (on, far ranges.Place) {
	return ranges.With(s), ranges.Place{}
}

// goOnWith is how a state goes by an instruction that gives one register a new range and does not jump.
func goOnWith(s api.State, register int, r api.Range) (on, far ranges.Place) {
	s[register] = r
	return goOn(s)
}

func (i halt) flow(s api.State) (on, far ranges.Place) {
	return ranges.Place{}, ranges.Place{}
}

func (i set) flow(s api.State) (on, far ranges.Place) {
	return goOnWith(s, i.a, ranges.Only(i.k))
}

func (i move) flow(s api.State) (on, far ranges.Place) {
	return goOnWith(s, i.a, s[i.b])
}

func (r reckoning) leftRange(s api.State) api.Range {
	return s[r.b]
}

func (r reckoning) rightRange(s api.State) api.Range {
	return s[r.c]
}

func (r reckoning) putRange(s api.State, value api.Range) (on, far ranges.Place) {
	return goOnWith(s, r.a, value)
}

func (i add) flow(s api.State) (on, far ranges.Place) {
	return i.putRange(s, ranges.Sum(i.leftRange(s), i.rightRange(s)))
}

func (i sub) flow(s api.State) (on, far ranges.Place) {
	return i.putRange(s, ranges.Difference(i.leftRange(s), i.rightRange(s)))
}

func (i mul) flow(s api.State) (on, far ranges.Place) {
	return i.putRange(s, ranges.Product(i.leftRange(s), i.rightRange(s)))
}

func (i div) flow(s api.State) (on, far ranges.Place) {
	return goOnWith(s, i.a, ranges.Quotient(s[i.b], s[i.c]))
}

func (i load) flow(s api.State) (on, far ranges.Place) {
	return goOnWith(s, i.a, ranges.All())
}

func (i store) flow(s api.State) (on, far ranges.Place) {
	return goOn(s)
}

func (i jump) flow(s api.State) (on, far ranges.Place) {
	return ranges.Place{}, ranges.With(s)
}

func (i less) flow(s api.State) (on, far ranges.Place) {
	if i.a == i.b {
		return goOn(s)
	}
	a, b := s[i.a], s[i.b]
	notBelow := api.Range{Lo: max(a.Lo, b.Lo), Hi: a.Hi}
	notAbove := api.Range{Lo: b.Lo, Hi: min(b.Hi, a.Hi)}
	on = narrowed(s, i.a, notBelow, i.b, notAbove)
	// No number is less than LEAST or more than MOST, and the ends below would wrap round.
	if b.Hi == api.Least || a.Lo == api.Most {
		return on, ranges.Place{}
	}
	below := api.Range{Lo: a.Lo, Hi: min(a.Hi, b.Hi-1)}
	above := api.Range{Lo: max(b.Lo, a.Lo+1), Hi: b.Hi}
	return on, narrowed(s, i.a, below, i.b, above)
}

func (i same) flow(s api.State) (on, far ranges.Place) {
	if i.a == i.b {
		return ranges.Place{}, ranges.With(s)
	}
	both := ranges.Common(s[i.a], s[i.b])
	far = narrowed(s, i.a, both, i.b, both)
	if ranges.AreOneNumber(s[i.a], s[i.b]) {
		return ranges.Place{}, far
	}
	return ranges.With(s), far
}

// narrowed is a place where two registers have lesser ranges: none comes there, if one of these is empty.
func narrowed(s api.State, a int, ofA api.Range, b int, ofB api.Range) ranges.Place {
	if ranges.IsEmpty(ofA) || ranges.IsEmpty(ofB) {
		return ranges.Place{}
	}
	s[a], s[b] = ofA, ofB
	return ranges.With(s)
}
