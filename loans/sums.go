package loans

import (
	"lender/api"
	"lender/sums"
)

// StateText is the text whose sum stands for a loan's state.
func StateText(s api.State) string {
	text := inDigits([]int{s.Principal, s.Due, s.Rate, s.Day, s.Spare, s.Count})
	return "S" + text
}

// PairText is the text whose sum stands for two neighbours among the loans, of their sums.
func PairText(first int, other int) string {
	a := sums.TwoBytes(first)
	b := sums.TwoBytes(other)
	return "M" + a + b
}

// HeadText is the text whose sum is the top.
func HeadText(size int, log int, all int) string {
	a := sums.TwoBytes(size)
	b := sums.TwoBytes(log)
	c := sums.TwoBytes(all)
	return "H" + a + b + c
}

// Text is the text whose sum stands for the states of neighbours, as many as a power of two: of all loans, the one whose sum is the loans' sum.
func Text(states []api.State) string {
	if len(states) == 0 {
		return ""
	}
	if len(states) == 1 {
		return StateText(states[0])
	}
	half := len(states) / 2
	first := Sum(states[:half])
	other := Sum(states[half:])
	return PairText(first, other)
}

// Sum is the sum that stands for the states of neighbours.
func Sum(states []api.State) int {
	text := Text(states)
	return sums.Sum(text)
}

// Path is the sums that stand beside those of a loan, which is 0 to 63, at the depths 0 to 5; the states are those of all loans.
func Path(states []api.State, loan int) [api.Depth]int {
	path := [api.Depth]int{}
	for d := api.Depth - 1; d >= 0; d-- {
		half := len(states) / 2
		if loan < half {
			path[d] = Sum(states[half:])
			states = states[:half]
		} else {
			path[d] = Sum(states[:half])
			states = states[half:]
			loan = loan - half
		}
	}
	return path
}
