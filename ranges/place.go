package ranges

import "surety/api"

// Place is a place in a program: it has a state, if it is reached. The zero Place is unreached.
type Place struct {
	Reached bool
	State   api.State
}

// With is a place that has this state.
func With(s api.State) Place {
	return Place{Reached: true, State: s}
}

// LiesIn tells whether what is known of a place holds of another one too: an unreached place lies in any.
func (p Place) LiesIn(other Place) bool {
	if !p.Reached {
		return true
	}
	return other.Reached && stateLiesIn(p.State, other.State)
}

func stateLiesIn(s, other api.State) bool {
	for n, r := range s {
		if !LiesIn(r, other[n]) {
			return false
		}
	}
	return true
}

// IsState tells whether no range of s is empty.
func IsState(s api.State) bool {
	for _, r := range s {
		if IsEmpty(r) {
			return false
		}
	}
	return true
}
