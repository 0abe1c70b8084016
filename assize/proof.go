package assize

import (
	"slices"

	"assize/api"
)

func (c *Court) prove(block int) ([]api.Link, api.Errno) {
	if !c.blocks.Has(block) {
		return nil, api.ErrBlock
	}
	steps := c.steps()
	child, linked := c.linkedChild(block)
	if steps[block] == never || !linked {
		return nil, api.ErrNone
	}
	return append(c.pathTo(block, steps), c.link(block, child)), api.OK
}

// pathTo tells the fewest links by which a just block is just, the root's first.
func (c *Court) pathTo(block int, steps []int) []api.Link {
	var path []api.Link
	target := block
	// Those ahead of a source that is taken come after it here, so one walk meets all sources.
	for source := range c.blocks.Ahead(block) {
		if steps[source] == steps[target]-1 && c.enough(source, target) {
			path = append(path, c.link(source, target))
			target = source
		}
	}
	slices.Reverse(path)
	return path
}

func (c *Court) link(source int, target int) api.Link {
	return api.Link{Source: source, Target: target, Voters: c.votersFor(source, target)}
}
