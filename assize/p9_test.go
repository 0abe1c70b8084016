package assize

import (
	"math/rand"
	"slices"
	"testing"

	"assize/api"
)

func sumOf(weights []int) int {
	sum := 0
	for _, w := range weights {
		sum += w
	}
	return sum
}

// isVoteOf: by a link of a proof.
func isVoteOf(proof []api.Link, vote api.Vote) bool {
	return slices.ContainsFunc(proof, func(l api.Link) bool {
		return l.Source == vote.Source && l.Target == vote.Target && slices.Contains(l.Voters, vote.Voter)
	})
}

// rightVerdict: a third at least, of voters who rise, each with two votes that nobody may.
func rightVerdict(t *testing.T, weights []int, parents []int, one []api.Link, other []api.Link, verdict api.Verdict) {
	t.Helper()
	sum, last := 0, -1
	for _, g := range verdict.Guilty {
		if g.Voter <= last || g.Voter >= len(weights) || g.One.Voter != g.Voter || g.Other.Voter != g.Voter {
			t.Fatalf("%v behind the voter %d", g, last)
		}
		last = g.Voter
		sum += weights[g.Voter]
		if !isVoteOf(one, g.One) || !isVoteOf(other, g.Other) {
			t.Fatalf("%v: votes that were not given", g)
		}
		if kind := nobodyMayByTheWords(parents, g.One, g.Other); kind == 0 || kind != g.Kind {
			t.Fatalf("%v: its kind is %d", g, kind)
		}
	}
	if sum != verdict.Weight || 3*sum < sumOf(weights) {
		t.Fatalf("%v: the weight is %d, of %d", verdict, sum, sumOf(weights))
	}
}

// TestP9AVerdictNamesAThird: whatever is handed in.
func TestP9AVerdictNamesAThird(t *testing.T) {
	r := rand.New(rand.NewSource(9))
	verdicts, barely := 0, 0
	for range 20000 {
		weights, parents, one, other := drawnSuit(r)
		if r.Intn(4) == 0 {
			spoilLink(r, one)
		}
		verdict, e := Judge(weights, parents, one, other)
		if e != api.OK {
			continue
		}
		rightVerdict(t, weights, parents, one, other, verdict)
		verdicts++
		if 3*verdict.Weight == sumOf(weights) {
			barely++
		}
	}
	if verdicts < 2000 || barely < 50 {
		t.Errorf("too few to tell: %d verdicts, %d of a third and no more", verdicts, barely)
	}
}

// pathsTo: all ways from the root to a block, by any of those ahead of it.
func pathsTo(parents []int, block int) [][]int {
	if block == 0 {
		return [][]int{{0}}
	}
	var paths [][]int
	for ahead := range block {
		if aheadByTheWords(parents, ahead, block) {
			for _, path := range pathsTo(parents, ahead) {
				paths = append(paths, append(slices.Clone(path), block))
			}
		}
	}
	return paths
}

// proofsIn: all ways of all proofs in a tree, each by the blocks that it comes by.
func proofsIn(parents []int) [][]int {
	var proofs [][]int
	for child := 1; child < len(parents); child++ {
		for _, path := range pathsTo(parents, parents[child]) {
			proofs = append(proofs, append(path, child))
		}
	}
	return proofs
}

// by: the links of a way, by voters that are drawn for each.
func by(r *rand.Rand, weights []int, way []int) []api.Link {
	var proof []api.Link
	for i, target := range way[1:] {
		proof = append(proof, api.Link{Source: way[i], Target: target, Voters: drawnVoters(r, weights)})
	}
	return proof
}

// eachTree: of this many blocks.
func eachTree(blocks int, do func(parents []int)) {
	var grow func(parents []int)
	grow = func(parents []int) {
		if len(parents) == blocks {
			do(slices.Clone(parents))
			return
		}
		for parent := range len(parents) {
			grow(append(parents, parent))
		}
	}
	grow([]int{0})
}

// TestP9EverySmallTree: every two proofs in every tree of eight blocks: they agree, or a third is named.
func TestP9EverySmallTree(t *testing.T) {
	r := rand.New(rand.NewSource(90))
	weights := equals(3)
	verdicts := 0
	eachTree(8, func(parents []int) {
		ways := proofsIn(parents)
		for _, way := range ways {
			for _, another := range ways {
				one, other := by(r, weights, way), by(r, weights, another)
				a, b := way[len(way)-2], another[len(another)-2]
				agree := a == b || aheadByTheWords(parents, a, b) || aheadByTheWords(parents, b, a)
				verdict, e := Judge(weights, parents, one, other)
				if agree != (e == api.ErrAgree) || !agree && e != api.OK {
					t.Fatalf("%v: %d: %v and %v", parents, e, one, other)
				}
				if e == api.OK {
					rightVerdict(t, weights, parents, one, other, verdict)
					verdicts++
				}
			}
		}
	})
	// Counted by another program, from how many blocks are ahead of each: so no tree and no proof is left out here.
	if verdicts != 47856 {
		t.Errorf("%d verdicts, want 47856", verdicts)
	}
}

// split: a Court in which several proofs were voted for, by drawn voters, among other votes.
func split(t *testing.T, r *rand.Rand) (*Court, []int, []int) {
	t.Helper()
	weights, parents, one, other := drawnSuit(r)
	c := court(t, weights, parents[1:]...)
	for _, proof := range [][]api.Link{one, other, drawnProof(r, weights, parents)} {
		for _, link := range proof {
			for _, voter := range link.Voters {
				c.Vote(voter, link.Source, link.Target)
			}
		}
		c.Vote(r.Intn(len(weights)), r.Intn(len(parents)), r.Intn(len(parents)))
	}
	return c, weights, parents
}

// TestP9ASplitCourtNamesAThird: whatever is voted; and the proofs of both blocks are judged, by votes that the Court knows.
func TestP9ASplitCourtNamesAThird(t *testing.T) {
	r := rand.New(rand.NewSource(91))
	splits := 0
	for range 3000 {
		c, weights, parents := split(t, r)
		votes := slices.Collect(c.All())
		guilty := c.Guilty()
		named, weight := map[int]bool{}, 0
		for _, g := range guilty {
			named[g.Voter] = true
			weight += weights[g.Voter]
			if !slices.Contains(votes, g.One) || !slices.Contains(votes, g.Other) || nobodyMayByTheWords(parents, g.One, g.Other) != g.Kind || g.Kind == 0 {
				t.Fatalf("%v, of the votes %v", g, votes)
			}
		}
		for _, a := range c.Final() {
			for _, b := range c.Final() {
				one, _ := c.Proof(a)
				other, _ := c.Proof(b)
				verdict, e := Judge(weights, parents, one, other)
				if a == b || aheadByTheWords(parents, a, b) || aheadByTheWords(parents, b, a) {
					if e != api.ErrAgree {
						t.Fatalf("%d and %d agree: %v, %d", a, b, verdict, e)
					}
					continue
				}
				splits++
				if e != api.OK || 3*weight < sumOf(weights) {
					t.Fatalf("%d and %d: %d, and the guilty weigh %d of %d", a, b, e, weight, sumOf(weights))
				}
				rightVerdict(t, weights, parents, one, other, verdict)
				for _, g := range verdict.Guilty {
					if !named[g.Voter] || !slices.Contains(votes, g.One) || !slices.Contains(votes, g.Other) {
						t.Fatalf("%v is not among %v", g, guilty)
					}
				}
			}
		}
	}
	if splits < 1000 {
		t.Errorf("too few to tell: %d splits", splits)
	}
}

// TestP9NobodyElseIsNamed: voters who give no vote that nobody may beside their own earlier ones are never named.
func TestP9NobodyElseIsNamed(t *testing.T) {
	r := rand.New(rand.NewSource(92))
	splits, honest := 0, 0
	for range 3000 {
		weights, parents, _, _ := drawnSuit(r)
		c := court(t, weights, parents[1:]...)
		good := make([]bool, len(weights))
		for voter := range good {
			good[voter] = r.Intn(3) == 0
		}
		for range 12 {
			for _, link := range drawnProof(r, weights, parents) {
				for voter := range weights {
					voteAsMayBe(c, parents, api.Vote{Voter: voter, Source: link.Source, Target: link.Target}, good[voter])
				}
			}
		}
		for _, g := range c.Guilty() {
			if good[g.Voter] {
				t.Fatalf("Guilty names %v", g)
			}
		}
		for _, a := range c.Final() {
			for _, b := range c.Final() {
				one, _ := c.Proof(a)
				other, _ := c.Proof(b)
				verdict, _ := Judge(weights, parents, one, other)
				for _, g := range verdict.Guilty {
					if good[g.Voter] {
						t.Fatalf("Judge names %v", g)
					}
				}
				if len(verdict.Guilty) > 0 {
					splits++
					if slices.Contains(good, true) {
						honest++
					}
				}
			}
		}
	}
	if splits < 1000 || honest < 200 {
		t.Errorf("too few to tell: %d splits, %d with an honest voter", splits, honest)
	}
}

// voteAsMayBe: a good voter leaves out a vote that nobody may give beside those already given.
func voteAsMayBe(c *Court, parents []int, vote api.Vote, good bool) {
	for before := range c.All() {
		if good && before.Voter == vote.Voter && nobodyMayByTheWords(parents, before, vote) != 0 {
			return
		}
	}
	c.Vote(vote.Voter, vote.Source, vote.Target)
}
