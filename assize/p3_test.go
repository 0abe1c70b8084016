package assize

import (
	"math"
	"slices"
	"testing"

	"assize/api"
)

func TestP3NewRefuses(t *testing.T) {
	for _, weights := range [][]int{
		nil, {}, {0}, {-1}, {101}, {math.MaxInt}, {math.MinInt},
		{0, 1, 1}, {1, 0, 1}, {1, 1, 0}, {1, 1, 101}, {101, 1, 1}, {100, -100},
		equals(13), slices.Repeat([]int{100}, 13), equals(100_000),
		append(equals(11), 0), append(equals(11), 101),
	} {
		if c, e := New(weights); c != nil || e != api.ErrWeights {
			t.Errorf("New of %d weights %.20v: %d", len(weights), weights, e)
		}
	}
}

func TestP3NewMakes(t *testing.T) {
	for _, weights := range [][]int{
		{1}, {100}, {1, 100}, {100, 1}, equals(12), slices.Repeat([]int{100}, 12), append(equals(11), 100),
	} {
		c := court(t, weights)
		equal(t, "Just of a new Court", c.Just(), 0)
		equal(t, "Final of a new Court", c.Final())
		if l := slices.Collect(c.All()); len(l) != 0 {
			t.Errorf("votes of a new Court: %v", l)
		}
		if e := c.Vote(len(weights)-1, 0, 1); e != api.ErrBlock {
			t.Errorf("a new Court has more than the root: %d", e)
		}
		if e := c.Vote(len(weights), 0, 0); e != api.ErrVoter {
			t.Errorf("of %d voters, the voter %d: %d", len(weights), len(weights), e)
		}
		if n, e := c.Block(0); n != 1 || e != api.OK {
			t.Errorf("the first block: %d, %d", n, e)
		}
	}
}

func TestP3BlockRefuses(t *testing.T) {
	c := court(t, equals(1))
	for count := 1; count <= api.MaxBlocks; count++ {
		for _, parent := range []int{math.MinInt, -1, count, count + 1, math.MaxInt} {
			if n, e := c.Block(parent); n != 0 || e != api.ErrBlock {
				t.Errorf("Block(%d), of %d blocks: %d, %d", parent, count, n, e)
			}
		}
		n, e := c.Block(count - 1)
		if count < api.MaxBlocks && (n != count || e != api.OK) {
			t.Errorf("Block(%d): %d, %d", count-1, n, e)
		}
		if count == api.MaxBlocks && (n != 0 || e != api.ErrMany) {
			t.Errorf("the block %d: %d, %d", count+1, n, e)
		}
	}
}

// TestP3Parents: the block lies behind the one that was named, and behind no other.
func TestP3Parents(t *testing.T) {
	c := court(t, equals(1), 0, 0, 1, 2, 2, 5)
	ahead := [][]int{{}, {0}, {0}, {0, 1}, {0, 2}, {0, 2}, {0, 2, 5}}
	for target := range ahead {
		for source := range ahead {
			want := api.ErrLink
			if slices.Contains(ahead[target], source) {
				want = api.OK
			}
			if e := c.Vote(0, source, target); e != want {
				t.Errorf("Vote(0, %d, %d): %d, want %d", source, target, e, want)
			}
		}
	}
}
