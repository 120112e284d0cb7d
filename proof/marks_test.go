package proof

import (
	"slices"
	"testing"

	"surety/api"
	"surety/machine"
	"surety/ranges"
)

func TestMarks(t *testing.T) {
	p := []api.Ins{
		{Op: api.Set, A: 1, K: 1},
		{Op: api.Jump, K: 3},
		{Op: api.Less, A: 1, B: 1, K: 5},
		{Op: api.Same, A: 1, B: 2, K: 3},
		{Op: api.Halt},
		{Op: api.Same, A: 0, B: 0, K: 5},
		{Op: api.Set, A: 2, K: 4},
	}
	want := []bool{false, false, false, true, false, true, false}
	if got := marksOf(machine.ProgramOf(p)); !slices.Equal(got, want) {
		t.Errorf("P5: marks %v, want %v", got, want)
	}
}

func TestBacks(t *testing.T) {
	p := []api.Ins{
		{Op: api.Jump, K: 1},
		{Op: api.Less, A: 1, B: 2, K: 4},
		{Op: api.Same, A: 1, B: 2, K: 2},
		{Op: api.Halt},
		{Op: api.Set, A: 2, K: 4},
		{Op: api.Less, A: 3, B: 3, K: 4},
		{Op: api.Jump, K: 7},
		{Op: api.Jump, K: 0},
	}
	want := []bool{true, false, true, false, true, false, false, false}
	if got := backsOf(machine.ProgramOf(p)); !slices.Equal(got, want) {
		t.Errorf("P6: jumps go back to %v, want %v", got, want)
	}
}

func TestFirstWrong(t *testing.T) {
	marks := []bool{true, false, true, true}
	empty := api.State{}
	empty[7] = api.Range{Lo: 1, Hi: 0}
	for _, c := range []struct {
		claims []api.Claim
		want   int
	}{
		{nil, 0},
		{[]api.Claim{{At: 0}, {At: 2}, {At: 3}}, 3},
		{[]api.Claim{{At: 0}, {At: 3}, {At: 2}}, 2},
		{[]api.Claim{{At: 2}, {At: 2}}, 1},
		{[]api.Claim{{At: 1}, {At: 9}}, 0},
		{[]api.Claim{{At: 0}, {At: 4}}, 1},
		{[]api.Claim{{At: -1}}, 0},
		{[]api.Claim{{At: api.Least}}, 0},
		{[]api.Claim{{At: api.Most}}, 0},
		{[]api.Claim{{At: 0}, {At: 2, State: empty}, {At: 3}}, 1},
	} {
		if got := firstWrong(marks, c.claims); got != c.want {
			t.Errorf("P5: the first wrong claim of %v is %d, want %d", c.claims, got, c.want)
		}
	}
}

func TestLayOut(t *testing.T) {
	s := api.State{{Lo: 3, Hi: 4}}
	want := []ranges.Place{{}, {Reached: true, State: s}, {}}
	if got := layOut(3, []api.Claim{{At: 1, State: s}}); !slices.Equal(got, want) {
		t.Errorf("P5: laid out as %v, want %v", got, want)
	}
}

func TestClaimsOfPlaces(t *testing.T) {
	first, last := api.State{{Lo: 3, Hi: 4}}, api.State{{Lo: -1, Hi: 0}}
	want := []api.Claim{{At: 0, State: first}, {At: 3, State: last}}
	if got := claimsOf([]ranges.Place{ranges.With(first), {}, {}, ranges.With(last), {}}); !slices.Equal(got, want) {
		t.Errorf("P6: claims %v, want %v", got, want)
	}
	if got := claimsOf(make([]ranges.Place, 3)); len(got) != 0 {
		t.Errorf("P6: claims %v of unreached places", got)
	}
}
