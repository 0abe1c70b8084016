package assize

import (
	"fmt"
	"iter"
	"math"
	"math/rand"
	"slices"
	"testing"

	"assize/api"
)

// oddNumbers: the edges of the limits, and what lies far off.
var oddNumbers = []int{math.MinInt, -1 << 32, -2, -1, 0, 1, 2, 11, 12, 13, 38, 39, 40, 41, 300, 1 << 32, math.MaxInt}

// court: with these weights, and blocks with these parents (from the first one behind the root on).
func court(t *testing.T, weights []int, parents ...int) *Court {
	t.Helper()
	c, e := New(weights)
	if c == nil || e != api.OK {
		t.Fatalf("New(%v): %d", weights, e)
	}
	for i, parent := range parents {
		if n, e := c.Block(parent); n != i+1 || e != api.OK {
			t.Fatalf("Block(%d): %d, %d, want %d", parent, n, e, i+1)
		}
	}
	return c
}

// vote: gives votes, none of which may be refused.
func vote(t *testing.T, c *Court, votes ...api.Vote) {
	t.Helper()
	for _, v := range votes {
		if e := c.Vote(v.Voter, v.Source, v.Target); e != api.OK {
			t.Fatalf("Vote(%v): %d", v, e)
		}
	}
}

// votesOf: each written as voter, source, target.
func votesOf(list [][3]int) []api.Vote {
	var votes []api.Vote
	for _, v := range list {
		votes = append(votes, api.Vote{Voter: v[0], Source: v[1], Target: v[2]})
	}
	return votes
}

// drawn: weights, parents and votes of a small Court, that has them; votes that it refused are not told.
func drawn(t *testing.T, r *rand.Rand, voters int, blocks int, tries int) (*Court, []int, []int, []api.Vote) {
	t.Helper()
	weights := make([]int, 1+r.Intn(voters))
	for i := range weights {
		weights[i] = 1 + r.Intn(4)
	}
	parents := make([]int, 1+r.Intn(blocks))
	for i := range parents {
		parents[i] = max(r.Intn(i+1), r.Intn(i+1))
	}
	c := court(t, weights, parents...)
	var votes []api.Vote
	for range r.Intn(tries) {
		v := api.Vote{Voter: r.Intn(len(weights)), Source: r.Intn(len(parents) + 1), Target: r.Intn(len(parents) + 1)}
		if c.Vote(v.Voter, v.Source, v.Target) == api.OK {
			votes = append(votes, v)
		}
	}
	return c, weights, parents, votes
}

// equals: a number of voters of the weight 1.
func equals(count int) []int {
	return slices.Repeat([]int{1}, count)
}

// chain: the parents of blocks of which each one is behind the one laid ahead of it.
func chain(count int) []int {
	var parents []int
	for i := range count {
		parents = append(parents, i)
	}
	return parents
}

// full: a Court with as many blocks and votes as there may be.
func full(t *testing.T) *Court {
	t.Helper()
	c := court(t, equals(api.MaxVoters), chain(api.MaxBlocks-1)...)
	for i := range api.MaxVotes {
		vote(t, c, api.Vote{Voter: i % api.MaxVoters, Source: 0, Target: 1 + i/api.MaxVoters})
	}
	return c
}

// told: all that a Court tells of itself without being changed.
func told(c *Court) string {
	blocks := 0
	if c.made() {
		blocks = c.blocks.Count()
	}
	words := fmt.Sprint(slices.Collect(c.All()), c.Just(), c.Final(), c.Guilty(), blocks)
	for block := -1; block <= blocks; block++ {
		proof, e := c.Proof(block)
		words += fmt.Sprint(" ", block, proof, e)
	}
	return words
}

// goThrough: to the end.
func goThrough(all iter.Seq[api.Vote]) {
	for range all {
	}
}

// notMade: the Courts that New did not make.
func notMade() map[string]*Court {
	return map[string]*Court{"nil": nil, "zero": {}}
}

func equal(t *testing.T, what string, got []int, want ...int) {
	t.Helper()
	if !slices.Equal(got, want) {
		t.Errorf("%s: %v, want %v", what, got, want)
	}
}
