package ranges

import "surety/api"

// Place is a place in a program: it has a state, if it is reached. The zero Place is unreached.
type Place struct {
	Reached bool
	State   api.State
}

// With is a place that has this state.
func With(s api.State) Place {
	return Place{Reached: true, State: s}
}

// LiesIn tells whether what is known of a place holds of another one too: an unreached place lies in any.
func (p Place) LiesIn(other Place) bool {
	if !p.Reached {
		return true
	}
	return other.Reached && stateLiesIn(p.State, other.State)
}

func stateLiesIn(s, other api.State) bool {
	for n, r := range s {
		if !LiesIn(r, other[n]) {
			return false
		}
	}
	return true
}

// Join is the place in which both lie: that of an unreached one and another is the other.
func (p Place) Join(other Place) Place {
	return p.joinBy(Join, other)
}

// Stretch is the join, but that each end of a range of p which is another one in it is as far off as can be.
func (p Place) Stretch(other Place) Place {
	return p.joinBy(Stretch, other)
}

func (p Place) joinBy(join func(r, other api.Range) api.Range, other Place) Place {
	if !p.Reached {
		return other
	}
	if !other.Reached {
		return p
	}
	for n, r := range p.State {
		p.State[n] = join(r, other.State[n])
	}
	return p
}

// IsState tells whether no range of s is empty.
func IsState(s api.State) bool {
	for _, r := range s {
		if IsEmpty(r) {
			return false
		}
	}
	return true
}

// AreIn tells whether each register is in its range of s.
func AreIn(regs [api.Regs]int, s api.State) bool {
	for n, r := range s {
		if !Has(r, regs[n]) {
			return false
		}
	}
	return true
}
