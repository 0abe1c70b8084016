// Package assize: votes that make blocks final, and who is guilty where two that do not agree are: see DOC.md.
package assize

import (
	"iter"
	"slices"
	"sync"

	"assize/api"
	"assize/tree"
	"assize/weigh"
)

// Court is a tree of blocks, and votes.
type Court struct {
	mutex   sync.Mutex
	weights weigh.Weights
	blocks  tree.Tree
	votes   []api.Vote // in the order in which they were given
}

// New makes a Court (P3).
func New(weights []int) (*Court, api.Errno) {
	if !weigh.Right(weights) {
		return nil, api.ErrWeights
	}
	return &Court{weights: slices.Clone(weights), blocks: tree.Planted()}, api.OK
}

// Block lays a block behind another one (P3).
func (c *Court) Block(parent int) (int, api.Errno) {
	c.lock()
	defer c.unlock()
	if !c.made() {
		return 0, api.ErrClosed
	}
	return c.lay(parent)
}

// Vote gives a vote (P4).
func (c *Court) Vote(voter int, source int, target int) api.Errno {
	c.lock()
	defer c.unlock()
	if !c.made() {
		return api.ErrClosed
	}
	return c.give(api.Vote{Voter: voter, Source: source, Target: target})
}

// All gives all votes (P4).
func (c *Court) All() iter.Seq[api.Vote] {
	c.lock()
	defer c.unlock()
	if !c.made() {
		return each(nil)
	}
	// A copy, so that the mutex is free while the caller goes through it, and later votes stay out.
	return each(slices.Clone(c.votes))
}

// Just tells which blocks are just (P5).
func (c *Court) Just() []int {
	c.lock()
	defer c.unlock()
	if !c.made() {
		return nil
	}
	return c.justBlocks()
}

// Final tells which blocks are final (P5).
func (c *Court) Final() []int {
	c.lock()
	defer c.unlock()
	if !c.made() {
		return nil
	}
	return c.finalBlocks()
}

// Guilty tells who gave votes that nobody may (P6).
func (c *Court) Guilty() []api.Guilt {
	c.lock()
	defer c.unlock()
	if !c.made() {
		return nil
	}
	return c.guilty()
}

// Proof shows that a block is final (P7).
func (c *Court) Proof(block int) ([]api.Link, api.Errno) {
	c.lock()
	defer c.unlock()
	if !c.made() {
		return nil, api.ErrClosed
	}
	return c.prove(block)
}

// Judge tells who is guilty, by two proofs alone (P8).
func Judge(weights []int, parents []int, one []api.Link, other []api.Link) (api.Verdict, api.Errno) {
	switch {
	case !weigh.Right(weights):
		return api.Verdict{}, api.ErrWeights
	case !tree.Right(parents):
		return api.Verdict{}, api.ErrTree
	}
	asked := suit{weights: weights, blocks: tree.Grown(parents), one: one, other: other}
	return asked.judge()
}
