package surety

import (
	"math/rand"
	"slices"
	"testing"

	"surety/api"
)

// P8: what is taken ends by DONE or FUEL alone, and is within its claims wherever it comes to a mark: with claims that Prove finds, and with others.
func TestWhatIsTakenRunsWell(t *testing.T) {
	r := rand.New(rand.NewSource(40))
	tried := 0
	for range 20000 {
		p, entry := tameProgram(r), tameEntry(r)
		c, e, _ := Prove(p, entry)
		if e != api.OK {
			continue
		}
		tried++
		wantRunsWell(t, r, p, entry, c)
		if other := spoiled(r, c, len(p)); !slices.Equal(c, other) {
			if e, _ := Check(p, entry, other); e == api.OK {
				wantRunsWell(t, r, p, entry, other)
			}
		}
	}
	if tried < 5000 {
		t.Errorf("P8: only %d programs were taken", tried)
	}
}

func wantRunsWell(t *testing.T, r *rand.Rand, p []api.Ins, entry api.State, c []api.Claim) {
	t.Helper()
	claims := map[int]api.State{}
	for _, claim := range c {
		claims[claim.At] = claim.State
	}
	for range 3 {
		regs := regsWithin(r, entry)
		o, visits := walk(p, regs, 200)
		if o.Kind != api.Done && o.Kind != api.Fuel {
			t.Fatalf("P8: %v was taken with %v, %v, and from %v it ends by %+v", p, entry, c, regs, o)
		}
		if got, e := Run(p, regs, 200); got != o || e != api.OK {
			t.Fatalf("P8: %v runs from %v to %+v, want %+v", p, regs, got, o)
		}
		wantVisitsWithin(t, p, visits, claims)
	}
}

func regsWithin(r *rand.Rand, s api.State) [api.Regs]int {
	regs := someRegs(r)
	for n := range regs {
		regs[n] = min(max(regs[n], s[n].Lo), s[n].Hi)
	}
	return regs
}

func wantVisitsWithin(t *testing.T, p []api.Ins, visits []api.Visit, claims map[int]api.State) {
	t.Helper()
	marks := marksIn(p)
	for _, v := range visits {
		if !marks[v.At] {
			continue
		}
		s, claimed := claims[v.At]
		for n := range v.Regs {
			if !claimed || !holds(s[n], v.Regs[n]) {
				t.Fatalf("P8: %v comes to %d with %v, claimed was %v", p, v.At, v.Regs, s)
			}
		}
	}
}

// P8: Check takes what Prove answers, and takes it with a narrower entry too, with which Prove finds claims or not.
func TestCheckTakesWhatProveFinds(t *testing.T) {
	r := rand.New(rand.NewSource(41))
	for range 20000 {
		p, entry := tameProgram(r), tameEntry(r)
		c, e, _ := Prove(p, entry)
		if e != api.OK {
			continue
		}
		wantChecked(t, []checked{{p, entry, c, api.OK, 0}})
		lesser := entry
		for n := range lesser {
			a, b := regsWithin(r, entry)[n], regsWithin(r, entry)[n]
			lesser[n] = api.Range{Lo: min(a, b), Hi: max(a, b)}
		}
		wantChecked(t, []checked{{p, lesser, c, api.OK, 0}})
	}
}

// aheadOnly: the program, but that each jump goes to an instruction behind it; the last one halts.
func aheadOnly(r *rand.Rand, p []api.Ins) []api.Ins {
	for at := range p {
		if isJump(p[at].Op) && at+1 < len(p) {
			p[at].K = at + 1 + r.Intn(len(p)-at-1)
		}
	}
	p[len(p)-1] = api.Ins{}
	return p
}

// widened: right claims of which some ranges have more; now and then marks that nothing comes to are claimed too.
func widened(r *rand.Rand, p []api.Ins, c []api.Claim) []api.Claim {
	claims := map[int]api.State{}
	for _, claim := range c {
		for n := range claim.State {
			if r.Intn(8) == 0 {
				claim.State = joined(claim.State, with(claim.State, n, someRange(r)))
			}
		}
		claims[claim.At] = claim.State
	}
	var l []api.Claim
	for at := range p {
		if s, is := claims[at]; is {
			l = append(l, api.Claim{At: at, State: s})
		} else if marksIn(p)[at] && r.Intn(3) == 0 {
			l = append(l, api.Claim{At: at, State: tameEntry(r)})
		}
	}
	return l
}

// with: the state, but for one register.
func with(s api.State, n int, r api.Range) api.State {
	s[n] = r
	return s
}

// P8: if no jump goes back, Prove finds claims where there are some: each that Check takes lies around what is found.
func TestProveFindsWhatThereIs(t *testing.T) {
	r := rand.New(rand.NewSource(42))
	found, wider := 0, 0
	for range 30000 {
		p, entry := aheadOnly(r, tameProgram(r)), tameEntry(r)
		some := widened(r, p, settled(p, entry))
		if e, _ := Check(p, entry, some); e != api.OK {
			continue
		}
		found++
		c, e, at := Prove(p, entry)
		if e != api.OK || at != 0 {
			t.Fatalf("P8: Prove(%v, %v) = %v, %d, %d, but Check takes %v", p, entry, c, e, at, some)
		}
		if !slices.Equal(c, some) {
			wider++
		}
		for _, claim := range c {
			around := slices.ContainsFunc(some, func(s api.Claim) bool { return s.At == claim.At && within(claim.State, s.State) })
			if !around {
				t.Fatalf("P8: Prove(%v, %v) finds %v, but Check takes %v", p, entry, c, some)
			}
		}
	}
	if found < 5000 || wider < 500 {
		t.Errorf("P8: only %d programs had claims, %d others than those found", found, wider)
	}
}
