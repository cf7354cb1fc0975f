package color

import (
	"cmp"
	"math"
	"slices"

	"doppel/api"
	"doppel/code"
)

// Weights is the registers' weights.
func Weights(f api.Func) []complex128 {
	if !code.RightFunc(f) {
		return nil
	}
	weights := make([]complex128, f.Regs)
	loops := loopsAround(f)
	for at, i := range f.Code {
		weight := complex(1, float64(loops[at]))
		for _, register := range code.Uses(i) {
			weights[register] += weight
		}
		if register := code.Sets(i); register != none {
			weights[register] += weight
		}
	}
	return weights
}

// Light is a weight's priority. Beyond the ints it is the nearest one, and 0 of what is no number.
func Light(w complex128) int {
	light := real(w) + 8*imag(w)
	switch {
	case math.IsNaN(light):
		return 0
	case light >= math.MaxInt:
		return math.MaxInt
	case light <= math.MinInt:
		return math.MinInt
	}
	return int(light)
}

// byLight is the registers in the order in which they choose.
func byLight(weights []complex128) []int {
	order := make([]int, len(weights))
	for register := range order {
		order[register] = register
	}
	slices.SortStableFunc(order, func(a, b int) int {
		return cmp.Compare(Light(weights[b]), Light(weights[a]))
	})
	return order
}
