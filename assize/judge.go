package assize

import (
	"slices"

	"assize/api"
	"assize/guilt"
	"assize/proof"
	"assize/tree"
	"assize/weigh"
)

// suit is all that two proofs are judged by: no Court is asked.
type suit struct {
	weights weigh.Weights
	blocks  tree.Tree
	one     []api.Link
	other   []api.Link
}

func (s *suit) judge() (api.Verdict, api.Errno) {
	switch {
	case !s.isRight(s.one) || !s.isRight(s.other):
		return api.Verdict{}, api.ErrProof
	case s.blocks.Agree(proof.Shown(s.one), proof.Shown(s.other)):
		return api.Verdict{}, api.ErrAgree
	}
	return s.verdict(), api.OK
}

func (s *suit) isRight(links []api.Link) bool {
	return proof.Right(&s.blocks, s.weights, links)
}

func (s *suit) verdict() api.Verdict {
	var verdict api.Verdict
	for voter, weight := range s.weights {
		if found, is := s.guiltOf(voter); is {
			verdict.Guilty = append(verdict.Guilty, found)
			verdict.Weight += weight
		}
	}
	return verdict
}

// guiltOf finds two votes of a voter that nobody may give: by the first link of one, and then by the first of other.
func (s *suit) guiltOf(voter int) (api.Guilt, bool) {
	others := votesBy(s.other, voter)
	for _, one := range votesBy(s.one, voter) {
		if found, is := guilt.First(&s.blocks, one, others); is {
			return found, true
		}
	}
	return api.Guilt{}, false
}

// votesBy tells the votes of a voter by the links of a proof, in their order.
func votesBy(links []api.Link, voter int) []api.Vote {
	var votes []api.Vote
	for _, link := range links {
		if slices.Contains(link.Voters, voter) {
			votes = append(votes, api.Vote{Voter: voter, Source: link.Source, Target: link.Target})
		}
	}
	return votes
}
