package assize

import (
	"iter"
	"slices"

	"assize/api"
)

// lock passes by a nil Court, which has no mutex.
func (c *Court) lock() {
	if c != nil {
		c.mutex.Lock()
	}
}

func (c *Court) unlock() {
	if c != nil {
		c.mutex.Unlock()
	}
}

// made tells if New made the Court: New makes none without weights.
func (c *Court) made() bool {
	return c != nil && len(c.weights) > 0
}

func (c *Court) lay(parent int) (number int, fault api.Errno) {
	before := c.blocks.Count()
	defer func() {
		if fault != api.OK {
			c.blocks.Keep(before)
		}
	}()
	if !c.blocks.Has(parent) {
		return 0, api.ErrBlock
	}
	number = c.blocks.Lay(parent)
	if c.blocks.Count() > api.MaxBlocks {
		return 0, api.ErrMany
	}
	return number, api.OK
}

func (c *Court) give(vote api.Vote) (fault api.Errno) {
	before := len(c.votes)
	defer func() {
		if fault != api.OK {
			c.votes = c.votes[:before]
		}
	}()
	fault = c.faultOf(vote)
	if fault != api.OK {
		return fault
	}
	c.votes = append(c.votes, vote)
	if len(c.votes) > api.MaxVotes {
		return api.ErrMany
	}
	return api.OK
}

// faultOf tells what speaks against a vote, whatever the number of votes.
func (c *Court) faultOf(vote api.Vote) api.Errno {
	switch {
	case !c.weights.Has(vote.Voter):
		return api.ErrVoter
	case !c.blocks.Has(vote.Source) || !c.blocks.Has(vote.Target):
		return api.ErrBlock
	case !c.blocks.IsAhead(vote.Source, vote.Target):
		return api.ErrLink
	case slices.Contains(c.votes, vote):
		return api.ErrTwice
	}
	return api.OK
}

// each gives the votes of a list that nobody else writes into.
func each(votes []api.Vote) iter.Seq[api.Vote] {
	return func(yield func(api.Vote) bool) {
		for _, vote := range votes {
			if !yield(vote) {
				return
			}
		}
	}
}
