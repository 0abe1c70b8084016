// Package proof: which links show that a block is final.
package proof

import (
	"assize/api"
	"assize/tree"
	"assize/weigh"
)

// Right tells if links are a proof, for this tree and these voters.
func Right(blocks *tree.Tree, weights weigh.Weights, links []api.Link) bool {
	if len(links) < 1 || len(links) > api.MaxLinks {
		return false
	}
	from := tree.Root
	for _, link := range links {
		if link.Source != from || !blocks.IsAhead(link.Source, link.Target) || !enough(weights, link.Voters) {
			return false
		}
		from = link.Target
	}
	last := links[len(links)-1]
	return blocks.IsParent(last.Source, last.Target)
}

// Shown is the block that a right proof shows to be final.
func Shown(links []api.Link) int {
	return links[len(links)-1].Source
}

// enough tells if voters are there, rise, and are enough.
func enough(weights weigh.Weights, voters []int) bool {
	least := 0
	for _, voter := range voters {
		if voter < least || !weights.Has(voter) {
			return false
		}
		least = voter + 1
	}
	return weights.Enough(weights.Of(voters))
}
