package assize

import (
	"assize/api"
	"assize/guilt"
)

func (c *Court) guilty() []api.Guilt {
	var guilty []api.Guilt
	for voter := range c.weights {
		if found, is := c.guiltOf(voter); is {
			guilty = append(guilty, found)
		}
	}
	return guilty
}

// guiltOf finds the first two votes of a voter that nobody may give.
func (c *Court) guiltOf(voter int) (api.Guilt, bool) {
	votes := c.votesOf(voter)
	for i, one := range votes {
		if found, is := guilt.First(&c.blocks, one, votes[i+1:]); is {
			return found, true
		}
	}
	return api.Guilt{}, false
}

// votesOf tells a voter's votes, in the order in which they were given.
func (c *Court) votesOf(voter int) []api.Vote {
	var votes []api.Vote
	for _, vote := range c.votes {
		if vote.Voter == voter {
			votes = append(votes, vote)
		}
	}
	return votes
}
