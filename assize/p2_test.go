package assize

import (
	"slices"
	"testing"

	"assize/api"
)

func TestP2WeightsAreNeitherWrittenNorKept(t *testing.T) {
	behind := []int{3, 1, 1, 77, 78, 79}
	weights := behind[:3]
	c := court(t, weights, chain(39)...)
	for voter := range 3 {
		for b := range 39 {
			vote(t, c, api.Vote{Voter: voter, Source: b, Target: b + 1})
		}
	}
	c.Just()
	c.Final()
	equal(t, "what was handed in, and what stands behind it", behind, 3, 1, 1, 77, 78, 79)

	c = court(t, weights, 0)
	for i := range behind {
		behind[i] = 50
	}
	vote(t, c, api.Vote{Voter: 1, Source: 0, Target: 1}, api.Vote{Voter: 2, Source: 0, Target: 1})
	equal(t, "Just by two of five", c.Just(), 0)
	vote(t, c, api.Vote{Voter: 0, Source: 0, Target: 1})
	equal(t, "Just by all", c.Just(), 0, 1)
}

// spoil: writes into a list, its spare room too.
func spoil(list []int) {
	for i := range list[:cap(list)] {
		list[:cap(list)][i] = -7
	}
}

func TestP2AnswersAreNewMemory(t *testing.T) {
	c := court(t, equals(1), chain(6)...)
	for b := range 6 {
		vote(t, c, api.Vote{Voter: 0, Source: b, Target: b + 1})
		just, final := c.Just(), c.Final()
		kept := slices.Clone(final)
		spoil(c.Just())
		spoil(just)
		equal(t, "Final, beside a Just that was written into", final, kept...)
		spoil(final)
		spoil(c.Final())
		equal(t, "Just", c.Just(), chain(b+2)...)
		equal(t, "Final", c.Final(), chain(b+1)...)
	}
	if n := len(slices.Collect(c.All())); n != 6 {
		t.Errorf("%d votes", n)
	}
}

// TestP2AnswersStay: what came out is not changed by what comes after.
func TestP2AnswersStay(t *testing.T) {
	c := court(t, equals(1), 0, 1)
	vote(t, c, api.Vote{Voter: 0, Source: 0, Target: 1})
	just, final := c.Just(), c.Final()
	vote(t, c, api.Vote{Voter: 0, Source: 1, Target: 2})
	c.Just()
	c.Final()
	equal(t, "Just of before", just, 0, 1)
	equal(t, "Final of before", final, 0)
}

func TestP2VotesOfAllAreTheCallers(t *testing.T) {
	c := court(t, equals(2), 0)
	vote(t, c, api.Vote{Voter: 0, Source: 0, Target: 1}, api.Vote{Voter: 1, Source: 0, Target: 1})
	all := c.All()
	list := slices.Collect(all)
	for i := range list {
		list[i] = api.Vote{Voter: 9, Source: 9, Target: 9}
	}
	for v := range all {
		v.Voter = 9
	}
	want := []api.Vote{{Voter: 0, Source: 0, Target: 1}, {Voter: 1, Source: 0, Target: 1}}
	if got := slices.Collect(all); !slices.Equal(got, want) {
		t.Errorf("the same All gives %v", got)
	}
	if got := slices.Collect(c.All()); !slices.Equal(got, want) {
		t.Errorf("a new All gives %v", got)
	}
}

func TestP2CourtsKnowNothingOfEachOther(t *testing.T) {
	weights := []int{1, 1}
	one, other := court(t, weights), court(t, weights)
	before := told(other)
	for _, parent := range chain(39) {
		one.Block(parent)
	}
	vote(t, one, api.Vote{Voter: 0, Source: 0, Target: 1}, api.Vote{Voter: 1, Source: 0, Target: 1})
	if after := told(other); after != before {
		t.Errorf("the other Court was changed:\n%s\n%s", before, after)
	}
	if n, e := other.Block(0); n != 1 || e != api.OK {
		t.Errorf("the other Court's first block: %d, %d", n, e)
	}
	if e := other.Vote(0, 0, 1); e != api.OK {
		t.Errorf("the other Court's first vote: %d", e)
	}
	equal(t, "Final of one", one.Final(), 0)
	equal(t, "Final of the other", other.Final())
}
