// Package weigh: the weights of the voters, and how much of them is enough.
package weigh

import "assize/api"

// Weights has the weight of each voter, by the voter's number.
type Weights []int

// Right tells if these may be the weights of voters.
func Right(weights []int) bool {
	if len(weights) < 1 || len(weights) > api.MaxVoters {
		return false
	}
	for _, weight := range weights {
		if weight < 1 || weight > api.MaxWeight {
			return false
		}
	}
	return true
}

// Has tells if there is a voter of this number.
func (w Weights) Has(voter int) bool {
	return 0 <= voter && voter < len(w)
}

// Total is all weight.
func (w Weights) Total() int {
	total := 0
	for _, weight := range w {
		total += weight
	}
	return total
}

// Of is the weight of these voters together, all of whom there are.
func (w Weights) Of(voters []int) int {
	weight := 0
	for _, voter := range voters {
		weight += w[voter]
	}
	return weight
}

// Enough tells if a part of the weight is at least two thirds of all.
func (w Weights) Enough(part int) bool {
	// Thirds by multiplying: a division would round.
	return 3*part >= 2*w.Total()
}
