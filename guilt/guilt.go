// Package guilt: which two votes nobody may give.
package guilt

import (
	"assize/api"
	"assize/tree"
)

// Neither is the kind of two votes that one voter may give.
const Neither = 0

// Kind tells in which way nobody may give both votes, for blocks that the tree has.
func Kind(blocks *tree.Tree, one api.Vote, other api.Vote) int {
	if one == other || one.Voter != other.Voter {
		return Neither
	}
	first, second := spanOf(blocks, one), spanOf(blocks, other)
	switch {
	case first.target == second.target:
		return api.Double
	case first.isAround(second) || second.isAround(first):
		return api.Around
	}
	return Neither
}

// First finds the first of others that nobody may give beside one.
func First(blocks *tree.Tree, one api.Vote, others []api.Vote) (api.Guilt, bool) {
	for _, other := range others {
		if kind := Kind(blocks, one, other); kind != Neither {
			return api.Guilt{Voter: one.Voter, Kind: kind, One: one, Other: other}, true
		}
	}
	return api.Guilt{}, false
}

// span is a vote by its heights alone: whether the blocks lie on one branch is of no weight.
type span struct {
	source int
	target int
}

func spanOf(blocks *tree.Tree, vote api.Vote) span {
	return span{source: blocks.Height(vote.Source), target: blocks.Height(vote.Target)}
}

func (s span) isAround(inner span) bool {
	return s.source < inner.source && s.target > inner.target
}
