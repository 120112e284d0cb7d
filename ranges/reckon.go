package ranges

import "surety/api"

// Factors within these ends have products that need no wrapping round.
const (
	leastFactor = -1 << 31
	mostFactor  = 1 << 31
)

// Sum is what can come of adding a number of c to one of b, all numbers if that may wrap round.
func Sum(b, c api.Range) api.Range {
	lo, loFits := add(b.Lo, c.Lo)
	hi, hiFits := add(b.Hi, c.Hi)
	return fitting(lo, hi, loFits && hiFits)
}

// Difference is what can come of taking a number of c from one of b, all numbers if that may wrap round.
func Difference(b, c api.Range) api.Range {
	lo, loFits := subtract(b.Lo, c.Hi)
	hi, hiFits := subtract(b.Hi, c.Lo)
	return fitting(lo, hi, loFits && hiFits)
}

func fitting(lo, hi int, fits bool) api.Range {
	if !fits {
		return All()
	}
	return api.Range{Lo: lo, Hi: hi}
}

// add tells the sum, and whether it is the one of whole numbers: only then it lies on that side of b which c's sign says.
func add(b, c int) (int, bool) {
	sum := b + c
	return sum, (sum < b) == (c < 0)
}

func subtract(b, c int) (int, bool) {
	difference := b - c
	return difference, (difference < b) == (c > 0)
}

// Product is what can come of multiplying a number of b by one of c, all numbers if one of them is no small factor.
func Product(b, c api.Range) api.Range {
	small := api.Range{Lo: leastFactor, Hi: mostFactor}
	if !LiesIn(b, small) || !LiesIn(c, small) {
		return All()
	}
	return span(b.Lo*c.Lo, b.Lo*c.Hi, b.Hi*c.Lo, b.Hi*c.Hi)
}

// Quotient is what can come of dividing a number of b by one of c, all numbers if c has 0 or if that may wrap round.
func Quotient(b, c api.Range) api.Range {
	if Has(c, 0) || Has(c, -1) && Has(b, api.Least) {
		return All()
	}
	return span(b.Lo/c.Lo, b.Lo/c.Hi, b.Hi/c.Lo, b.Hi/c.Hi)
}

func span(n, o, p, q int) api.Range {
	return api.Range{Lo: min(n, o, p, q), Hi: max(n, o, p, q)}
}
