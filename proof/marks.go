package proof

import (
	"surety/api"
	"surety/machine"
	"surety/ranges"
)

// marksOf tells of each instruction whether it is a mark: whatever jump names it makes it one, even a jump that nothing comes to.
func marksOf(p machine.Program) []bool {
	marks := make([]bool, len(p))
	for at := range p {
		if k, jumps := p.Target(at); jumps {
			marks[k] = true
		}
	}
	return marks
}

// backsOf tells of each instruction whether some jump goes back to it: one that stands there, or behind it.
func backsOf(p machine.Program) []bool {
	backs := make([]bool, len(p))
	for at := range p {
		if k, jumps := p.Target(at); jumps && k <= at {
			backs[k] = true
		}
	}
	return backs
}

// firstWrong is the number of the first claim that is not right, or how many there are, if all are.
func firstWrong(marks []bool, c []api.Claim) int {
	last := -1
	for n, claim := range c {
		if claim.At <= last || claim.At >= len(marks) || !marks[claim.At] || !ranges.IsState(claim.State) {
			return n
		}
		last = claim.At
	}
	return len(c)
}

// layOut has what right claims say of each of so many instructions: of those without one that they are unreached.
func layOut(count int, c []api.Claim) []ranges.Place {
	claimed := make([]ranges.Place, count)
	for _, claim := range c {
		claimed[claim.At] = ranges.With(claim.State)
	}
	return claimed
}

// claimsOf has a claim for each place that has a state.
func claimsOf(states []ranges.Place) []api.Claim {
	var c []api.Claim
	for at, place := range states {
		if place.Reached {
			c = append(c, api.Claim{At: at, State: place.State})
		}
	}
	return c
}
