package assize

import (
	"slices"

	"assize/api"
	"assize/tree"
)

// never stands for more steps than there may be between blocks.
const never = api.MaxBlocks

// votersFor tells all who have voted for a link, rising.
func (c *Court) votersFor(source int, target int) []int {
	var voters []int
	for _, vote := range c.votes {
		if vote.Source == source && vote.Target == target {
			// No voter comes twice: a vote is given once.
			voters = append(voters, vote.Voter)
		}
	}
	slices.Sort(voters)
	return voters
}

// enough tells if enough voters have voted for a link.
func (c *Court) enough(source int, target int) bool {
	return c.weights.Enough(c.weights.Of(c.votersFor(source, target)))
}

// steps tells of each block by how few links it is just: never, if it is not.
func (c *Court) steps() []int {
	steps := make([]int, c.blocks.Count())
	// Those ahead of a block have lesser numbers, so they are settled before it.
	for block := range steps {
		steps[block] = c.stepsTo(block, steps)
	}
	return steps
}

func (c *Court) stepsTo(block int, steps []int) int {
	if block == tree.Root {
		return 0
	}
	fewest := never
	for source := range c.blocks.Ahead(block) {
		if steps[source]+1 < fewest && c.enough(source, block) {
			fewest = steps[source] + 1
		}
	}
	return fewest
}

func (c *Court) justBlocks() []int {
	var just []int
	for block, steps := range c.steps() {
		if steps != never {
			just = append(just, block)
		}
	}
	return just
}

func (c *Court) finalBlocks() []int {
	var final []int
	for _, block := range c.justBlocks() {
		if _, linked := c.linkedChild(block); linked {
			final = append(final, block)
		}
	}
	return final
}

// linkedChild finds one of which a block is the parent, and to which enough have voted for a link from it.
func (c *Court) linkedChild(block int) (int, bool) {
	for child := range c.blocks.Count() {
		if c.blocks.IsParent(block, child) && c.enough(block, child) {
			return child, true
		}
	}
	return 0, false
}
