package assize

import "assize/tree"

// enough tells if enough voters have voted for a link.
func (c *Court) enough(source int, target int) bool {
	weight := 0
	for _, vote := range c.votes {
		if vote.Source == source && vote.Target == target {
			// No voter counts twice: a vote is given once.
			weight += c.weights[vote.Voter]
		}
	}
	return c.weights.Enough(weight)
}

// justBlocks tells of each block if it is just.
func (c *Court) justBlocks() []bool {
	just := make([]bool, c.blocks.Count())
	// Those ahead of a block have lesser numbers, so they are settled before it.
	for block := range just {
		just[block] = block == tree.Root || c.linkedFrom(just, block)
	}
	return just
}

// linkedFrom tells if enough have voted for a link to the target from one of the just.
func (c *Court) linkedFrom(just []bool, target int) bool {
	for source := range c.blocks.Ahead(target) {
		if just[source] && c.enough(source, target) {
			return true
		}
	}
	return false
}

// finalBlocks tells of each block if it is final.
func (c *Court) finalBlocks() []bool {
	just := c.justBlocks()
	final := make([]bool, len(just))
	for block := range final {
		final[block] = just[block] && c.linkedToChild(block)
	}
	return final
}

// linkedToChild tells if enough have voted for a link from a block to one of which it is the parent.
func (c *Court) linkedToChild(block int) bool {
	for child := range c.blocks.Count() {
		if c.blocks.IsParent(block, child) && c.enough(block, child) {
			return true
		}
	}
	return false
}

// numbersOf tells which blocks are marked, rising.
func numbersOf(marked []bool) []int {
	var numbers []int
	for block, is := range marked {
		if is {
			numbers = append(numbers, block)
		}
	}
	return numbers
}
