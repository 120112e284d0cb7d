package surety

import (
	"math/big"
	"math/rand"

	"surety/api"
)

var allNumbers = api.Range{Lo: api.Least, Hi: api.Most}

type but = map[int]api.Range

// wide: all numbers in each register, but for some.
func wide(b but) api.State {
	var s api.State
	for n := range s {
		s[n] = allNumbers
		if r, is := b[n]; is {
			s[n] = r
		}
	}
	return s
}

func someRange(r *rand.Rand) api.Range {
	lo, hi := someNumber(r), someNumber(r)
	switch r.Intn(4) {
	case 0:
		hi = lo
	case 1:
		return api.Range{Lo: 1, Hi: 9}
	}
	return api.Range{Lo: min(lo, hi), Hi: max(lo, hi)}
}

func someState(r *rand.Rand) api.State {
	var s api.State
	for n := range s {
		s[n] = someRange(r)
	}
	return s
}

func hasEmpty(s api.State) bool {
	for _, r := range s {
		if r.Hi < r.Lo {
			return true
		}
	}
	return false
}

func within(s, other api.State) bool {
	for n := range s {
		if s[n].Lo < other[n].Lo || s[n].Hi > other[n].Hi {
			return false
		}
	}
	return true
}

func joined(s, other api.State) api.State {
	for n := range s {
		s[n] = api.Range{Lo: min(s[n].Lo, other[n].Lo), Hi: max(s[n].Hi, other[n].Hi)}
	}
	return s
}

func holds(r api.Range, n int) bool { return n >= r.Lo && n <= r.Hi }

// reckonedRange: the document's words on Add, Sub, Mul and Div of ranges, in whole numbers.
func reckonedRange(op int, b, c api.Range) api.Range {
	bound := api.Range{Lo: -1 << 31, Hi: 1 << 31}
	for _, n := range []int{b.Lo, b.Hi, c.Lo, c.Hi} {
		if op == api.Mul && !holds(bound, n) {
			return allNumbers
		}
	}
	if op == api.Div && (holds(c, 0) || holds(c, -1) && holds(b, api.Least)) {
		return allNumbers
	}
	var least, most *big.Int
	for _, m := range []int{b.Lo, b.Hi} {
		for _, n := range []int{c.Lo, c.Hi} {
			x, y, v := big.NewInt(int64(m)), big.NewInt(int64(n)), new(big.Int)
			switch op {
			case api.Add:
				v.Add(x, y)
			case api.Sub:
				v.Sub(x, y)
			case api.Mul:
				v.Mul(x, y)
			case api.Div:
				v.Quo(x, y)
			}
			if least == nil || v.Cmp(least) < 0 {
				least = v
			}
			if most == nil || v.Cmp(most) > 0 {
				most = v
			}
		}
	}
	if !least.IsInt64() || !most.IsInt64() {
		return allNumbers
	}
	return api.Range{Lo: int(least.Int64()), Hi: int(most.Int64())}
}

// becomes: the document's words on what becomes of a state, apart from the program's own: where it goes on, and where it goes to K; nil is no state.
func becomes(i api.Ins, s api.State) (on, far *api.State) {
	next := s
	switch i.Op {
	case api.Halt:
		return nil, nil
	case api.Jump:
		return nil, &next
	case api.Less:
		return becomesByLess(i, s)
	case api.Same:
		return becomesBySame(i, s)
	case api.Set:
		next[i.A] = api.Range{Lo: i.K, Hi: i.K}
	case api.Move:
		next[i.A] = s[i.B]
	case api.Load:
		next[i.A] = allNumbers
	case api.Add, api.Sub, api.Mul, api.Div:
		next[i.A] = reckonedRange(i.Op, s[i.B], s[i.C])
	}
	return &next, nil
}

func becomesByLess(i api.Ins, s api.State) (on, far *api.State) {
	goes, stays := s, s
	if i.A == i.B {
		return &stays, nil
	}
	a, b := s[i.A], s[i.B]
	if b.Hi != api.Least && a.Lo != api.Most {
		if b.Hi-1 < a.Hi {
			goes[i.A].Hi = b.Hi - 1
		}
		if a.Lo+1 > b.Lo {
			goes[i.B].Lo = a.Lo + 1
		}
		if !hasEmpty(goes) {
			far = &goes
		}
	}
	if b.Lo > a.Lo {
		stays[i.A].Lo = b.Lo
	}
	if a.Hi < b.Hi {
		stays[i.B].Hi = a.Hi
	}
	if !hasEmpty(stays) {
		on = &stays
	}
	return on, far
}

func becomesBySame(i api.Ins, s api.State) (on, far *api.State) {
	goes, stays := s, s
	if i.A == i.B {
		return nil, &goes
	}
	a, b := s[i.A], s[i.B]
	for _, n := range []int{i.A, i.B} {
		goes[n] = api.Range{Lo: max(a.Lo, b.Lo), Hi: min(a.Hi, b.Hi)}
	}
	if !hasEmpty(goes) {
		far = &goes
	}
	if a.Lo != a.Hi || b.Lo != b.Hi || a.Lo != b.Lo {
		on = &stays
	}
	return on, far
}

func marksIn(p []api.Ins) map[int]bool {
	marks := map[int]bool{}
	for _, i := range p {
		if isJump(i.Op) {
			marks[i.K] = true
		}
	}
	return marks
}
