package assize

import (
	"fmt"
	"slices"
	"testing"

	"assize/api"
)

func TestP2WeightsAreNeitherWrittenNorKept(t *testing.T) {
	behind := []int{3, 1, 1, 77, 78, 79}
	weights := behind[:3]
	c := court(t, weights, chain(39)...)
	for voter := range 3 {
		for b := range 39 {
			vote(t, c, api.Vote{Voter: voter, Source: b, Target: b + 1})
		}
	}
	c.Just()
	c.Final()
	c.Guilty()
	c.Proof(38)
	equal(t, "what was handed in, and what stands behind it", behind, 3, 1, 1, 77, 78, 79)

	c = court(t, weights, 0)
	for i := range behind {
		behind[i] = 50
	}
	vote(t, c, api.Vote{Voter: 1, Source: 0, Target: 1}, api.Vote{Voter: 2, Source: 0, Target: 1})
	equal(t, "Just by two of five", c.Just(), 0)
	vote(t, c, api.Vote{Voter: 0, Source: 0, Target: 1})
	equal(t, "Just by all", c.Just(), 0, 1)
}

// spoil: writes into a list, its spare room too.
func spoil(list []int) {
	for i := range list[:cap(list)] {
		list[:cap(list)][i] = -7
	}
}

func TestP2AnswersAreNewMemory(t *testing.T) {
	c := court(t, equals(1), chain(6)...)
	for b := range 6 {
		vote(t, c, api.Vote{Voter: 0, Source: b, Target: b + 1})
		just, final := c.Just(), c.Final()
		kept := slices.Clone(final)
		spoil(c.Just())
		spoil(just)
		equal(t, "Final, beside a Just that was written into", final, kept...)
		spoil(final)
		spoil(c.Final())
		equal(t, "Just", c.Just(), chain(b+2)...)
		equal(t, "Final", c.Final(), chain(b+1)...)
	}
	if n := len(slices.Collect(c.All())); n != 6 {
		t.Errorf("%d votes", n)
	}
}

// TestP2AnswersStay: what came out is not changed by what comes after.
func TestP2AnswersStay(t *testing.T) {
	c := court(t, equals(1), 0, 1)
	vote(t, c, api.Vote{Voter: 0, Source: 0, Target: 1})
	just, final := c.Just(), c.Final()
	vote(t, c, api.Vote{Voter: 0, Source: 1, Target: 2})
	c.Just()
	c.Final()
	equal(t, "Just of before", just, 0, 1)
	equal(t, "Final of before", final, 0)
}

// spoilProof: writes into all that a proof is made of, its spare room too.
func spoilProof(proof []api.Link) {
	proof = proof[:cap(proof)]
	for i := range proof {
		spoil(proof[i].Voters)
		proof[i] = api.Link{Source: -7, Target: -7}
	}
}

// spoilGuilty: writes into a list, its spare room too.
func spoilGuilty(guilty []api.Guilt) {
	guilty = guilty[:cap(guilty)]
	for i := range guilty {
		guilty[i] = api.Guilt{Voter: -7, Kind: -7}
	}
}

func TestP2ProofsAndGuiltyAreNewMemory(t *testing.T) {
	c := court(t, equals(3), 0, 1, 2, 0)
	vote(t, c, votesOf([][3]int{{2, 0, 1}, {0, 0, 1}, {1, 0, 1}, {1, 1, 2}, {0, 1, 2}, {2, 2, 3}, {1, 2, 3}, {0, 0, 4}, {2, 0, 4}})...)
	before := told(c)
	for range 3 {
		first, _ := c.Proof(2)
		second, _ := c.Proof(2)
		kept := fmt.Sprint(second)
		spoilProof(first)
		if got := fmt.Sprint(second); got != kept {
			t.Errorf("Proof(2), beside one that was written into: %s, want %s", got, kept)
		}
		one, other := c.Guilty(), c.Guilty()
		kept = fmt.Sprint(other)
		spoilGuilty(one)
		if got := fmt.Sprint(other); got != kept {
			t.Errorf("Guilty, beside one that was written into: %s, want %s", got, kept)
		}
		if after := told(c); after != before {
			t.Errorf("changed by what was written into answers:\n%s\n%s", before, after)
		}
	}
}

// TestP2VotersOfLinksShareNothing: whichever list of one proof is written into, its spare room too, the others stay.
func TestP2VotersOfLinksShareNothing(t *testing.T) {
	const blocks = 6
	for voters := 1; voters <= 12; voters++ {
		c := court(t, equals(voters), chain(blocks)...)
		for b := range blocks {
			for voter := range voters {
				vote(t, c, api.Vote{Voter: voter, Source: b, Target: b + 1})
			}
		}
		for at := range blocks {
			proof, _ := c.Proof(blocks - 1)
			if len(proof) != blocks {
				t.Fatalf("%d links", len(proof))
			}
			spoil(proof[at].Voters)
			for i, link := range proof {
				if i != at {
					equal(t, "voters beside a list that was written into", link.Voters, chain(voters)...)
				}
			}
		}
	}
}

// TestP2ProofsAndGuiltyStay: what came out is not changed by what comes after.
func TestP2ProofsAndGuiltyStay(t *testing.T) {
	c := court(t, equals(4), 0, 1, 0)
	vote(t, c, votesOf([][3]int{{3, 0, 1}, {1, 0, 1}, {0, 0, 1}, {1, 0, 3}})...)
	proof, _ := c.Proof(0)
	guilty := c.Guilty()
	vote(t, c, votesOf([][3]int{{2, 0, 1}, {0, 0, 3}, {1, 0, 2}, {2, 0, 3}})...)
	c.Proof(0)
	c.Guilty()
	if got := fmt.Sprint(proof); got != "[{0 1 [0 1 3]}]" {
		t.Errorf("Proof of before: %s", got)
	}
	if got := fmt.Sprint(guilty); got != "[{1 1 {1 0 1} {1 0 3}}]" {
		t.Errorf("Guilty of before: %s", got)
	}
}

func TestP2VotesOfAllAreTheCallers(t *testing.T) {
	c := court(t, equals(2), 0)
	vote(t, c, api.Vote{Voter: 0, Source: 0, Target: 1}, api.Vote{Voter: 1, Source: 0, Target: 1})
	all := c.All()
	list := slices.Collect(all)
	for i := range list {
		list[i] = api.Vote{Voter: 9, Source: 9, Target: 9}
	}
	for v := range all {
		v.Voter = 9
	}
	want := []api.Vote{{Voter: 0, Source: 0, Target: 1}, {Voter: 1, Source: 0, Target: 1}}
	if got := slices.Collect(all); !slices.Equal(got, want) {
		t.Errorf("the same All gives %v", got)
	}
	if got := slices.Collect(c.All()); !slices.Equal(got, want) {
		t.Errorf("a new All gives %v", got)
	}
}

func TestP2CourtsKnowNothingOfEachOther(t *testing.T) {
	weights := []int{1, 1}
	one, other := court(t, weights), court(t, weights)
	before := told(other)
	for _, parent := range chain(39) {
		one.Block(parent)
	}
	vote(t, one, api.Vote{Voter: 0, Source: 0, Target: 1}, api.Vote{Voter: 1, Source: 0, Target: 1})
	if after := told(other); after != before {
		t.Errorf("the other Court was changed:\n%s\n%s", before, after)
	}
	if n, e := other.Block(0); n != 1 || e != api.OK {
		t.Errorf("the other Court's first block: %d, %d", n, e)
	}
	if e := other.Vote(0, 0, 1); e != api.OK {
		t.Errorf("the other Court's first vote: %d", e)
	}
	equal(t, "Final of one", one.Final(), 0)
	equal(t, "Final of the other", other.Final())
	if _, e := other.Proof(0); e != api.ErrNone {
		t.Errorf("Proof(0) of the other: %d", e)
	}
	vote(t, one, api.Vote{Voter: 0, Source: 1, Target: 2}, api.Vote{Voter: 0, Source: 0, Target: 2})
	if guilty := other.Guilty(); len(one.Guilty()) != 1 || len(guilty) != 0 {
		t.Errorf("Guilty of the other: %v", guilty)
	}
}
