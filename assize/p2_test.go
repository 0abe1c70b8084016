package assize

import (
	"fmt"
	"slices"
	"testing"

	"assize/api"
)

func TestP2WeightsAreNeitherWrittenNorKept(t *testing.T) {
	behind := []int{3, 1, 1, 77, 78, 79}
	weights := behind[:3]
	c := court(t, weights, chain(39)...)
	for voter := range 3 {
		for b := range 39 {
			vote(t, c, api.Vote{Voter: voter, Source: b, Target: b + 1})
		}
	}
	c.Just()
	c.Final()
	c.Guilty()
	c.Proof(38)
	equal(t, "what was handed in, and what stands behind it", behind, 3, 1, 1, 77, 78, 79)

	c = court(t, weights, 0)
	for i := range behind {
		behind[i] = 50
	}
	vote(t, c, api.Vote{Voter: 1, Source: 0, Target: 1}, api.Vote{Voter: 2, Source: 0, Target: 1})
	equal(t, "Just by two of five", c.Just(), 0)
	vote(t, c, api.Vote{Voter: 0, Source: 0, Target: 1})
	equal(t, "Just by all", c.Just(), 0, 1)
}

// spoil: writes into a list, its spare room too.
func spoil(list []int) {
	for i := range list[:cap(list)] {
		list[:cap(list)][i] = -7
	}
}

func TestP2AnswersAreNewMemory(t *testing.T) {
	c := court(t, equals(1), chain(6)...)
	for b := range 6 {
		vote(t, c, api.Vote{Voter: 0, Source: b, Target: b + 1})
		just, final := c.Just(), c.Final()
		kept := slices.Clone(final)
		spoil(c.Just())
		spoil(just)
		equal(t, "Final, beside a Just that was written into", final, kept...)
		spoil(final)
		spoil(c.Final())
		equal(t, "Just", c.Just(), chain(b+2)...)
		equal(t, "Final", c.Final(), chain(b+1)...)
	}
	if n := len(slices.Collect(c.All())); n != 6 {
		t.Errorf("%d votes", n)
	}
}

// TestP2AnswersStay: what came out is not changed by what comes after.
func TestP2AnswersStay(t *testing.T) {
	c := court(t, equals(1), 0, 1)
	vote(t, c, api.Vote{Voter: 0, Source: 0, Target: 1})
	just, final := c.Just(), c.Final()
	vote(t, c, api.Vote{Voter: 0, Source: 1, Target: 2})
	c.Just()
	c.Final()
	equal(t, "Just of before", just, 0, 1)
	equal(t, "Final of before", final, 0)
}

// spoilProof: writes into all that a proof is made of, its spare room too.
func spoilProof(proof []api.Link) {
	proof = proof[:cap(proof)]
	for i := range proof {
		spoil(proof[i].Voters)
		proof[i] = api.Link{Source: -7, Target: -7}
	}
}

// spoilGuilty: writes into a list, its spare room too.
func spoilGuilty(guilty []api.Guilt) {
	guilty = guilty[:cap(guilty)]
	for i := range guilty {
		guilty[i] = api.Guilt{Voter: -7, Kind: -7}
	}
}

func TestP2ProofsAndGuiltyAreNewMemory(t *testing.T) {
	c := court(t, equals(3), 0, 1, 2, 0)
	vote(t, c, votesOf([][3]int{{2, 0, 1}, {0, 0, 1}, {1, 0, 1}, {1, 1, 2}, {0, 1, 2}, {2, 2, 3}, {1, 2, 3}, {0, 0, 4}, {2, 0, 4}})...)
	before := told(c)
	for range 3 {
		first, _ := c.Proof(2)
		second, _ := c.Proof(2)
		kept := fmt.Sprint(second)
		spoilProof(first)
		if got := fmt.Sprint(second); got != kept {
			t.Errorf("Proof(2), beside one that was written into: %s, want %s", got, kept)
		}
		one, other := c.Guilty(), c.Guilty()
		kept = fmt.Sprint(other)
		spoilGuilty(one)
		if got := fmt.Sprint(other); got != kept {
			t.Errorf("Guilty, beside one that was written into: %s, want %s", got, kept)
		}
		if after := told(c); after != before {
			t.Errorf("changed by what was written into answers:\n%s\n%s", before, after)
		}
	}
}

// TestP2VotersOfLinksShareNothing: whichever list of one proof is written into, its spare room too, the others stay.
func TestP2VotersOfLinksShareNothing(t *testing.T) {
	const blocks = 6
	for voters := 1; voters <= 12; voters++ {
		c := court(t, equals(voters), chain(blocks)...)
		for b := range blocks {
			for voter := range voters {
				vote(t, c, api.Vote{Voter: voter, Source: b, Target: b + 1})
			}
		}
		for at := range blocks {
			proof, _ := c.Proof(blocks - 1)
			if len(proof) != blocks {
				t.Fatalf("%d links", len(proof))
			}
			spoil(proof[at].Voters)
			for i, link := range proof {
				if i != at {
					equal(t, "voters beside a list that was written into", link.Voters, chain(voters)...)
				}
			}
		}
	}
}

// TestP2ProofsAndGuiltyStay: what came out is not changed by what comes after.
func TestP2ProofsAndGuiltyStay(t *testing.T) {
	c := court(t, equals(4), 0, 1, 0)
	vote(t, c, votesOf([][3]int{{3, 0, 1}, {1, 0, 1}, {0, 0, 1}, {1, 0, 3}})...)
	proof, _ := c.Proof(0)
	guilty := c.Guilty()
	vote(t, c, votesOf([][3]int{{2, 0, 1}, {0, 0, 3}, {1, 0, 2}, {2, 0, 3}})...)
	c.Proof(0)
	c.Guilty()
	if got := fmt.Sprint(proof); got != "[{0 1 [0 1 3]}]" {
		t.Errorf("Proof of before: %s", got)
	}
	if got := fmt.Sprint(guilty); got != "[{1 1 {1 0 1} {1 0 3}}]" {
		t.Errorf("Guilty of before: %s", got)
	}
}

func TestP2VotesOfAllAreTheCallers(t *testing.T) {
	c := court(t, equals(2), 0)
	vote(t, c, api.Vote{Voter: 0, Source: 0, Target: 1}, api.Vote{Voter: 1, Source: 0, Target: 1})
	all := c.All()
	list := slices.Collect(all)
	for i := range list {
		list[i] = api.Vote{Voter: 9, Source: 9, Target: 9}
	}
	for v := range all {
		v.Voter = 9
	}
	want := []api.Vote{{Voter: 0, Source: 0, Target: 1}, {Voter: 1, Source: 0, Target: 1}}
	if got := slices.Collect(all); !slices.Equal(got, want) {
		t.Errorf("the same All gives %v", got)
	}
	if got := slices.Collect(c.All()); !slices.Equal(got, want) {
		t.Errorf("a new All gives %v", got)
	}
}

func TestP2CourtsKnowNothingOfEachOther(t *testing.T) {
	weights := []int{1, 1}
	one, other := court(t, weights), court(t, weights)
	before := told(other)
	for _, parent := range chain(39) {
		one.Block(parent)
	}
	vote(t, one, api.Vote{Voter: 0, Source: 0, Target: 1}, api.Vote{Voter: 1, Source: 0, Target: 1})
	if after := told(other); after != before {
		t.Errorf("the other Court was changed:\n%s\n%s", before, after)
	}
	if n, e := other.Block(0); n != 1 || e != api.OK {
		t.Errorf("the other Court's first block: %d, %d", n, e)
	}
	if e := other.Vote(0, 0, 1); e != api.OK {
		t.Errorf("the other Court's first vote: %d", e)
	}
	equal(t, "Final of one", one.Final(), 0)
	equal(t, "Final of the other", other.Final())
	if _, e := other.Proof(0); e != api.ErrNone {
		t.Errorf("Proof(0) of the other: %d", e)
	}
	vote(t, one, api.Vote{Voter: 0, Source: 1, Target: 2}, api.Vote{Voter: 0, Source: 0, Target: 2})
	if guilty := other.Guilty(); len(one.Guilty()) != 1 || len(guilty) != 0 {
		t.Errorf("Guilty of the other: %v", guilty)
	}
}

// roomy: a list with more behind it.
func roomy(list []int) []int {
	return append(slices.Clone(list), 77, 78, 79)[:len(list)]
}

// roomyProof: with more behind it, and behind each list of voters.
func roomyProof(proof []api.Link) []api.Link {
	more := make([]api.Link, 0, len(proof)+2)
	for _, link := range proof {
		more = append(more, api.Link{Source: link.Source, Target: link.Target, Voters: roomy(link.Voters)})
	}
	return append(more, linksOf([]int{77, 78, 79}, []int{80, 81})...)[:len(proof)]
}

// wholeProof: a proof in words, with what stands behind it, and behind each list of voters.
func wholeProof(proof []api.Link) string {
	words := ""
	for _, link := range proof[:cap(proof)] {
		words += fmt.Sprint(link.Source, link.Target, link.Voters[:cap(link.Voters)], " ")
	}
	return words
}

// TestP2JudgeWritesIntoNothing: whatever the answer, what is handed in, deep, with what stands behind it, is as it was.
func TestP2JudgeWritesIntoNothing(t *testing.T) {
	for _, x := range []struct {
		weights, parents []int
		one, other       []api.Link
		want             api.Errno
	}{
		{equals(3), twin(), proofOf1(), proofOf6(), api.OK},
		{equals(3), twin(), proofOf6(), proofOf1(), api.OK},
		{[]int{1, 101, 1}, twin(), proofOf1(), proofOf6(), api.ErrWeights},
		{equals(3), with(twin(), 4, 4), proofOf1(), proofOf6(), api.ErrTree},
		{equals(3), with(twin(), 0, 1), proofOf1(), proofOf6(), api.ErrTree},
		{equals(3), twin(), linksOf([]int{0, 1, 2, 1}, []int{1, 2, 0, 1}), proofOf6(), api.ErrProof},
		{equals(3), twin(), proofOf1(), linksOf([]int{6, 7, 1, 2}, []int{0, 6, 1, 2}), api.ErrProof},
		{equals(3), twin(), proofOf1(), linksOf([]int{0, 1, 1, 2}), api.ErrAgree},
	} {
		weights, parents, one, other := roomy(x.weights), roomy(x.parents), roomyProof(x.one), roomyProof(x.other)
		told := func() string {
			return fmt.Sprint(weights[:cap(weights)], parents[:cap(parents)], wholeProof(one), wholeProof(other))
		}
		before := told()
		if _, e := Judge(weights, parents, one, other); e != x.want {
			t.Errorf("Judge: %d, want %d", e, x.want)
		}
		if after := told(); after != before {
			t.Errorf("the answer %d wrote into what was handed in:\n%s\n%s", x.want, before, after)
		}
	}
}

// TestP2JudgeKeepsNothing: neither a Verdict nor what comes after it hangs on what becomes of what was handed in.
func TestP2JudgeKeepsNothing(t *testing.T) {
	const want = "{[{1 1 {1 0 1} {1 0 6}}] 1} 0"
	weights, parents, one, other := equals(3), twin(), proofOf1(), proofOf6()
	verdict, e := Judge(weights, parents, one, other)
	spoil(weights)
	spoil(parents)
	spoilProof(one)
	spoilProof(other)
	if got := fmt.Sprint(verdict, e); got != want {
		t.Errorf("the Verdict of before: %s", got)
	}
	if got := judged(t, equals(3), twin(), proofOf1(), proofOf6()); got != want {
		t.Errorf("judged anew: %s", got)
	}
}

// TestP2VerdictsAreNewMemory: whatever is written into one, its spare room too, another one stays, and what was handed in.
func TestP2VerdictsAreNewMemory(t *testing.T) {
	c := court(t, equals(4), twin()[1:]...)
	for _, link := range [][2]int{{0, 1}, {1, 2}, {0, 6}, {6, 7}} {
		for voter := range 4 {
			vote(t, c, api.Vote{Voter: voter, Source: link[0], Target: link[1]})
		}
	}
	before := told(c)
	one, _ := c.Proof(1)
	other, _ := c.Proof(6)
	proofs := wholeProof(one) + wholeProof(other)
	first, _ := Judge(equals(4), twin(), one, other)
	second, _ := Judge(equals(4), twin(), one, other)
	if len(first.Guilty) != 4 {
		t.Fatalf("Judge: %v", first)
	}
	kept := fmt.Sprint(second)
	spoilGuilty(first.Guilty)
	if got := fmt.Sprint(second); got != kept {
		t.Errorf("beside one that was written into: %s, want %s", got, kept)
	}
	if got := wholeProof(one) + wholeProof(other); got != proofs {
		t.Errorf("the proofs that were handed in: %s, want %s", got, proofs)
	}
	if after := told(c); after != before {
		t.Errorf("the Court that gave the proofs:\n%s\n%s", before, after)
	}
}

// TestP2JudgeOfSharedLists: what the caller shares among the lists that are handed in changes no answer.
func TestP2JudgeOfSharedLists(t *testing.T) {
	numbers := append(twin(), 1, 1, 1, 0, 1, 2)
	parents, weights, voters := numbers[:11], numbers[11:14], numbers[14:]
	links := []api.Link{{Source: 0, Target: 1, Voters: voters}, {Source: 1, Target: 2, Voters: voters}, {Source: 0, Target: 6, Voters: voters}, {Source: 6, Target: 7, Voters: voters}}
	kept := fmt.Sprint(numbers, links)
	if got := judged(t, weights, parents, links[:2], links[2:]); got != "{[{0 1 {0 0 1} {0 0 6}} {1 1 {1 0 1} {1 0 6}} {2 1 {2 0 1} {2 0 6}}] 3} 0" {
		t.Errorf("Judge: %s", got)
	}
	refused(t, "one proof, twice", api.ErrAgree, weights, parents, links[:2], links[:2])
	if got := fmt.Sprint(numbers, links); got != kept {
		t.Errorf("what was handed in: %s, want %s", got, kept)
	}
}
