package ranges

import (
	"testing"

	"surety/api"
)

// small: all ranges within -4 to 4 that are not empty.
func small() []api.Range {
	var l []api.Range
	for lo := -4; lo <= 4; lo++ {
		for hi := lo; hi <= 4; hi++ {
			l = append(l, api.Range{Lo: lo, Hi: hi})
		}
	}
	return l
}

// isIn looks through all small numbers.
func isIn(r, other api.Range) bool {
	for n := -4; n <= 4; n++ {
		if Has(r, n) && !Has(other, n) {
			return false
		}
	}
	return true
}

func TestRangesOfFewNumbers(t *testing.T) {
	for _, r := range small() {
		for _, other := range small() {
			if got := LiesIn(r, other); got != isIn(r, other) {
				t.Errorf("P5: %v lies in %v: %t", r, other, got)
			}
			both, some := Common(r, other), false
			for n := -5; n <= 5; n++ {
				if Has(both, n) != (Has(r, n) && Has(other, n)) {
					t.Errorf("P5: %v and %v have in common %v", r, other, both)
				}
				some = some || Has(both, n)
			}
			if IsEmpty(both) == some {
				t.Errorf("P5: %v is empty: %t", both, !some)
			}
			if got := AreOneNumber(r, other); got != (r.Lo == r.Hi && other.Lo == other.Hi && r.Lo == other.Lo) {
				t.Errorf("P5: %v and %v are one number: %t", r, other, got)
			}
		}
	}
}

func TestJoinsOfFewNumbers(t *testing.T) {
	for _, old := range small() {
		for _, other := range small() {
			join := Join(old, other)
			if !isIn(old, join) || !isIn(other, join) || join.Lo != old.Lo && join.Lo != other.Lo || join.Hi != old.Hi && join.Hi != other.Hi {
				t.Errorf("P6: the join of %v and %v is %v", old, other, join)
			}
			want := join
			if other.Lo < old.Lo {
				want.Lo = api.Least
			}
			if other.Hi > old.Hi {
				want.Hi = api.Most
			}
			if got := Stretch(old, other); got != want {
				t.Errorf("P6: %v stretched for %v is %v, want %v", old, other, got, want)
			}
		}
	}
}

// spanned is the range of all that op makes of numbers of b and c.
func spanned(b, c api.Range, op func(m, n int) int) api.Range {
	out := api.Range{Lo: api.Most, Hi: api.Least}
	for m := b.Lo; m <= b.Hi; m++ {
		for n := c.Lo; n <= c.Hi; n++ {
			out = api.Range{Lo: min(out.Lo, op(m, n)), Hi: max(out.Hi, op(m, n))}
		}
	}
	return out
}

func TestReckoningWithFewNumbers(t *testing.T) {
	for _, b := range small() {
		for _, c := range small() {
			if got, want := Sum(b, c), spanned(b, c, func(m, n int) int { return m + n }); got != want {
				t.Errorf("P5: %v + %v = %v, want %v", b, c, got, want)
			}
			if got, want := Difference(b, c), spanned(b, c, func(m, n int) int { return m - n }); got != want {
				t.Errorf("P5: %v - %v = %v, want %v", b, c, got, want)
			}
			if got, want := Product(b, c), spanned(b, c, func(m, n int) int { return m * n }); got != want {
				t.Errorf("P5: %v * %v = %v, want %v", b, c, got, want)
			}
			want := All()
			if !Has(c, 0) {
				want = spanned(b, c, func(m, n int) int { return m / n })
			}
			if got := Quotient(b, c); got != want {
				t.Errorf("P5: %v / %v = %v, want %v", b, c, got, want)
			}
		}
	}
}

type reckoned struct{ b, c, want api.Range }

func r(lo, hi int) api.Range { return api.Range{Lo: lo, Hi: hi} }

func wantReckoned(t *testing.T, name string, op func(b, c api.Range) api.Range, cases []reckoned) {
	t.Helper()
	for _, c := range cases {
		if got := op(c.b, c.c); got != c.want {
			t.Errorf("P5: %s of %v and %v is %v, want %v", name, c.b, c.c, got, c.want)
		}
	}
}

func TestReckoningAtTheEdges(t *testing.T) {
	all := All()
	wantReckoned(t, "sum", Sum, []reckoned{
		{all, Only(0), all},
		{all, Only(1), all},
		{r(api.Least, 0), Only(-1), all},
		{r(api.Least+1, 0), Only(-1), r(api.Least, -1)},
		{r(0, api.Most), Only(1), all},
		{r(0, api.Most-1), Only(1), r(1, api.Most)},
		{Only(api.Most), Only(api.Most), all},
		{Only(api.Least), Only(api.Least), all},
		{Only(api.Least), Only(api.Most), Only(-1)},
	})
	wantReckoned(t, "difference", Difference, []reckoned{
		{all, Only(0), all},
		{Only(0), Only(api.Least), all},
		{Only(-1), Only(api.Least), Only(api.Most)},
		{Only(0), Only(api.Most), Only(-api.Most)},
		{Only(-1), Only(api.Most), Only(api.Least)},
		{Only(-2), Only(api.Most), all},
		{Only(api.Least), Only(api.Least), Only(0)},
		{all, all, all},
	})
	wantReckoned(t, "product", Product, []reckoned{
		{r(-1<<31, 1<<31), r(-1<<31, 1<<31), r(-1<<62, 1<<62)},
		{Only(1<<31 + 1), Only(0), all},
		{Only(0), Only(1<<31 + 1), all},
		{Only(-1<<31 - 1), Only(0), all},
		{Only(0), Only(-1<<31 - 1), all},
		{Only(-1 << 31), r(-1, 1<<31), r(-1<<62, 1<<31)},
	})
	wantReckoned(t, "quotient", Quotient, []reckoned{
		{all, Only(1), all},
		{all, Only(-1), all},
		{all, Only(2), r(-1<<62, 1<<62-1)},
		{all, r(-3, -2), r(-(1<<62 - 1), 1<<62)},
		{Only(api.Least), r(-2, -1), all},
		{Only(api.Least), r(-2, -2), Only(1 << 62)},
		{r(api.Least+1, api.Most), r(-2, -1), r(-api.Most, api.Most)},
		{Only(0), r(-1, 1), all},
		{Only(0), r(0, 9), all},
		{Only(0), r(-9, 0), all},
		{r(-7, 7), all, all},
	})
}

func TestPlaces(t *testing.T) {
	var wide, narrow api.State
	for n := range wide {
		wide[n], narrow[n] = r(-3, 9), r(0, 9)
	}
	if !With(narrow).LiesIn(With(wide)) || With(wide).LiesIn(With(narrow)) || !With(wide).LiesIn(With(wide)) {
		t.Error("P5: 0 to 9 lies in -3 to 9, not the other way round")
	}
	if !(Place{}).LiesIn(With(narrow)) || !(Place{}).LiesIn(Place{}) || With(narrow).LiesIn(Place{}) || With(api.State{}).LiesIn(Place{}) {
		t.Error("P5: an unreached place lies in any, and none but it in an unreached one")
	}
	for n := range wide {
		one := narrow
		one[n].Hi = 10
		if With(one).LiesIn(With(wide)) {
			t.Errorf("P5: a state whose register %d has more lies in another one", n)
		}
		one[n] = r(1, 0)
		if IsState(one) || !IsState(narrow) {
			t.Errorf("P5: a state whose register %d has no number is none", n)
		}
	}
}

func TestJoinsOfPlaces(t *testing.T) {
	var s, other, join, stretched api.State
	for n := range s {
		s[n], other[n], join[n], stretched[n] = r(n, n+3), r(0, n+4), r(0, n+4), r(api.Least, api.Most)
	}
	stretched[0].Lo = 0
	for _, c := range []struct{ p, other, join, stretched Place }{
		{Place{}, Place{}, Place{}, Place{}},
		{Place{}, With(s), With(s), With(s)},
		{With(s), Place{}, With(s), With(s)},
		{With(s), With(s), With(s), With(s)},
		{With(s), With(other), With(join), With(stretched)},
		{With(other), With(s), With(other), With(other)},
	} {
		if got := c.p.Join(c.other); got != c.join {
			t.Errorf("P6: the join of %v and %v is %v, want %v", c.p, c.other, got, c.join)
		}
		if got := c.p.Stretch(c.other); got != c.stretched {
			t.Errorf("P6: %v stretched for %v is %v, want %v", c.p, c.other, got, c.stretched)
		}
	}
}

func TestAreIn(t *testing.T) {
	var s api.State
	for n := range s {
		s[n] = r(n-2, n+2)
	}
	inside := [api.Regs]int{0, 1, 2, 3, 4, 5, 6, 7}
	for n := range s {
		for by, want := range map[int]bool{-3: false, -2: true, 0: true, 2: true, 3: false} {
			regs := inside
			regs[n] += by
			if AreIn(regs, s) != want {
				t.Errorf("P7: %v are in %v: %t", regs, s, !want)
			}
		}
	}
}
