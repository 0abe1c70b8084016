package assize

import (
	"fmt"
	"math"
	"math/rand"
	"slices"
	"testing"

	"assize/api"
)

// rightProof: by the document's words alone, of a block in a tree whose blocks behind the root have these parents.
func rightProof(t *testing.T, weights []int, parents []int, block int, proof []api.Link) {
	t.Helper()
	if len(proof) < 1 || len(proof) > api.MaxLinks {
		t.Errorf("%d links", len(proof))
		return
	}
	all := 0
	for _, w := range weights {
		all += w
	}
	source := 0
	for _, link := range proof {
		if link.Source != source {
			t.Errorf("%v: a source that is not %d", proof, source)
		}
		source = link.Target
		at := link.Target
		for at > link.Source {
			at = parents[at-1]
		}
		if at != link.Source || link.Source == link.Target {
			t.Errorf("%v: %d is not ahead of %d", proof, link.Source, link.Target)
		}
		weight, last := 0, -1
		for _, voter := range link.Voters {
			if voter <= last || voter >= len(weights) {
				t.Errorf("%v: the voters %v", proof, link.Voters)
				return
			}
			weight += weights[voter]
			last = voter
		}
		if 3*weight < 2*all {
			t.Errorf("%v: %d of %d are not enough", proof, weight, all)
		}
	}
	last := proof[len(proof)-1]
	if last.Source != block || parents[last.Target-1] != block {
		t.Errorf("%v does not show that %d is final", proof, block)
	}
}

func TestP7Proof(t *testing.T) {
	branches := []int{0, 0, 1, 2}
	example := [][3]int{{0, 0, 1}, {1, 0, 1}, {0, 1, 3}, {1, 1, 3}}
	whole := append(slices.Clone(example), [][3]int{{1, 0, 2}, {2, 0, 2}, {1, 2, 4}, {2, 2, 4}}...)
	for _, x := range []struct {
		name    string
		weights []int
		parents []int
		votes   [][3]int
		block   int
		want    string
	}{
		{"a new Court's root", equals(1), nil, nil, 0, "[] 8"},
		{"a new Court's block", equals(1), nil, nil, 1, "[] 4"},
		{"the root", equals(1), []int{0}, [][3]int{{0, 0, 1}}, 0, "[{0 1 [0]}] 0"},
		{"just, not final", equals(1), []int{0}, [][3]int{{0, 0, 1}}, 1, "[] 8"},
		{"the block behind the last", equals(1), []int{0}, [][3]int{{0, 0, 1}}, 2, "[] 4"},
		{"the root, by a grandchild", equals(1), chain(2), [][3]int{{0, 0, 2}}, 0, "[] 8"},
		{"the root, by the second child", equals(1), []int{0, 0}, [][3]int{{0, 0, 2}}, 0, "[{0 2 [0]}] 0"},
		{"the example", equals(3), branches, example, 1, "[{0 1 [0 1]} {1 3 [0 1]}] 0"},
		{"the example's root", equals(3), branches, example, 0, "[{0 1 [0 1]}] 0"},
		{"the example's other branch, too early", equals(3), branches, example, 2, "[] 8"},
		{"the example's other branch", equals(3), branches, whole, 2, "[{0 2 [1 2]} {2 4 [1 2]}] 0"},
		{"the example's first branch still", equals(3), branches, whole, 1, "[{0 1 [0 1]} {1 3 [0 1]}] 0"},
		{"final, if it were just", equals(1), chain(3), [][3]int{{0, 1, 2}, {0, 2, 3}}, 2, "[] 8"},
		{"over a block", equals(1), chain(3), [][3]int{{0, 0, 2}, {0, 2, 3}}, 2, "[{0 2 [0]} {2 3 [0]}] 0"},
		{"the block that was passed over", equals(1), chain(3), [][3]int{{0, 0, 2}, {0, 2, 3}, {0, 1, 2}}, 1, "[] 8"},
		{"by two children together", equals(3), []int{0, 0}, [][3]int{{0, 0, 1}, {1, 0, 2}}, 0, "[] 8"},
		{"from two sources together", equals(3), chain(3), [][3]int{{0, 0, 1}, {1, 0, 1}, {0, 0, 2}, {1, 1, 2}, {0, 2, 3}, {1, 2, 3}}, 2, "[] 8"},
		{"voters rise, however they came", equals(4), []int{0}, [][3]int{{3, 0, 1}, {1, 0, 1}, {2, 0, 1}, {0, 0, 1}}, 0, "[{0 1 [0 1 2 3]}] 0"},
		{"all voters, more than enough", []int{100, 1, 1}, []int{0}, [][3]int{{2, 0, 1}, {0, 0, 1}}, 0, "[{0 1 [0 2]}] 0"},
		{"two of four", equals(4), []int{0}, [][3]int{{0, 0, 1}, {3, 0, 1}}, 0, "[] 8"},
		{"three of four", equals(4), []int{0}, [][3]int{{0, 0, 1}, {3, 0, 1}, {1, 0, 1}}, 0, "[{0 1 [0 1 3]}] 0"},
		{"the first of 2, 1", []int{2, 1}, []int{0}, [][3]int{{0, 0, 1}}, 0, "[{0 1 [0]}] 0"},
		{"the second of 2, 1", []int{2, 1}, []int{0}, [][3]int{{1, 0, 1}}, 0, "[] 8"},
		{"66 of 99", []int{33, 33, 33}, []int{0}, [][3]int{{0, 0, 1}, {2, 0, 1}}, 0, "[{0 1 [0 2]}] 0"},
		{"66 of 100", []int{33, 33, 34}, []int{0}, [][3]int{{0, 0, 1}, {1, 0, 1}}, 0, "[] 8"},
		{"67 of 100", []int{33, 33, 34}, []int{0}, [][3]int{{0, 0, 1}, {2, 0, 1}}, 0, "[{0 1 [0 2]}] 0"},
		{"the last link just too light", equals(3), chain(2), [][3]int{{0, 0, 1}, {1, 0, 1}, {2, 1, 2}}, 1, "[] 8"},
		{"the first link just too light", equals(3), chain(2), [][3]int{{0, 0, 1}, {0, 1, 2}, {2, 1, 2}}, 1, "[] 8"},
	} {
		c := court(t, x.weights, x.parents...)
		vote(t, c, votesOf(x.votes)...)
		proof, e := c.Proof(x.block)
		if got := fmt.Sprint(proof, e); got != x.want {
			t.Errorf("%s: %s, want %s", x.name, got, x.want)
		}
		if e == api.OK {
			rightProof(t, x.weights, x.parents, x.block, proof)
		}
	}
}

func TestP7Errors(t *testing.T) {
	c := court(t, equals(1), chain(39)...)
	vote(t, c, api.Vote{Voter: 0, Source: 0, Target: 1})
	for _, block := range []int{math.MinInt, -40, -1, 40, 41, math.MaxInt} {
		if proof, e := c.Proof(block); proof != nil || e != api.ErrBlock {
			t.Errorf("Proof(%d): %v, %d", block, proof, e)
		}
	}
	for block := 1; block < 40; block++ {
		if proof, e := c.Proof(block); proof != nil || e != api.ErrNone {
			t.Errorf("Proof(%d): %v, %d", block, proof, e)
		}
	}
}

// TestP7FarBehind: the longest proof that there may be, and every one ahead of it.
func TestP7FarBehind(t *testing.T) {
	weights, parents := []int{3, 2, 1}, chain(39)
	c := court(t, weights, parents...)
	for b := 38; b >= 0; b-- {
		vote(t, c, api.Vote{Voter: 2, Source: b, Target: b + 1}, api.Vote{Voter: 0, Source: b, Target: b + 1})
	}
	for block := range 39 {
		proof, e := c.Proof(block)
		if len(proof) != block+1 || e != api.OK {
			t.Fatalf("Proof(%d): %d links, %d", block, len(proof), e)
		}
		rightProof(t, weights, parents, block, proof)
		for i, link := range proof {
			if want := fmt.Sprintf("{%d %d [0 2]}", i, i+1); fmt.Sprint(link) != want {
				t.Errorf("Proof(%d): %v, want %s", block, link, want)
			}
		}
	}
	if _, e := c.Proof(39); e != api.ErrNone {
		t.Errorf("Proof(39): %d", e)
	}
}

// TestP7FewestLinks: where neither the farthest step from the root, nor the farthest or nearest back, leads to the fewest.
func TestP7FewestLinks(t *testing.T) {
	for _, x := range []struct {
		name  string
		links [][2]int
		block int
		want  string
	}{
		{"one by one", [][2]int{{0, 1}, {1, 2}, {2, 3}, {3, 4}}, 3, "[{0 1 [0]} {1 2 [0]} {2 3 [0]} {3 4 [0]}]"},
		{"at once", [][2]int{{0, 1}, {1, 2}, {2, 3}, {3, 4}, {0, 3}}, 3, "[{0 3 [0]} {3 4 [0]}]"},
		{"not the farthest step from the root", [][2]int{{0, 4}, {4, 5}, {5, 6}, {6, 7}, {0, 2}, {2, 6}}, 6, "[{0 2 [0]} {2 6 [0]} {6 7 [0]}]"},
		{"not the farthest step back", [][2]int{{0, 1}, {1, 2}, {2, 4}, {0, 3}, {3, 4}, {4, 5}}, 4, "[{0 3 [0]} {3 4 [0]} {4 5 [0]}]"},
		{"not the nearest step back", [][2]int{{0, 1}, {1, 2}, {2, 3}, {3, 5}, {1, 5}, {5, 6}}, 5, "[{0 1 [0]} {1 5 [0]} {5 6 [0]}]"},
		{"not from a block that is not just", [][2]int{{0, 1}, {1, 2}, {2, 5}, {3, 5}, {5, 6}}, 5, "[{0 1 [0]} {1 2 [0]} {2 5 [0]} {5 6 [0]}]"},
	} {
		for _, backwards := range []bool{false, true} {
			links := slices.Clone(x.links)
			if backwards {
				slices.Reverse(links)
			}
			c := court(t, equals(1), chain(7)...)
			for _, l := range links {
				vote(t, c, api.Vote{Voter: 0, Source: l[0], Target: l[1]})
			}
			proof, e := c.Proof(x.block)
			if got := fmt.Sprint(proof); got != x.want || e != api.OK {
				t.Errorf("%s: %s, %d, want %s", x.name, got, e, x.want)
			}
		}
	}
}

// TestP7NoLinkThatIsTooLight: a short way by links that are not enough is no way.
func TestP7NoLinkThatIsTooLight(t *testing.T) {
	c := court(t, equals(3), chain(3)...)
	vote(t, c, votesOf([][3]int{{0, 0, 1}, {1, 0, 1}, {1, 1, 2}, {2, 1, 2}, {0, 2, 3}, {2, 2, 3}, {0, 0, 2}})...)
	if proof, _ := c.Proof(2); fmt.Sprint(proof) != "[{0 1 [0 1]} {1 2 [1 2]} {2 3 [0 2]}]" {
		t.Errorf("Proof(2): %v", proof)
	}
	vote(t, c, api.Vote{Voter: 2, Source: 0, Target: 2})
	if proof, _ := c.Proof(2); fmt.Sprint(proof) != "[{0 2 [0 2]} {2 3 [0 2]}]" {
		t.Errorf("Proof(2), one vote later: %v", proof)
	}
	vote(t, c, api.Vote{Voter: 1, Source: 0, Target: 2})
	if proof, _ := c.Proof(2); fmt.Sprint(proof) != "[{0 2 [0 1 2]} {2 3 [0 2]}]" {
		t.Errorf("Proof(2), two votes later: %v", proof)
	}
}

// fewestByTheWords: the number of links of the shortest proof of each final block, found in rounds over all links.
func fewestByTheWords(weights []int, parents []int, votes []api.Vote) map[int]int {
	all := 0
	for _, w := range weights {
		all += w
	}
	sum := map[[2]int]int{}
	for _, v := range votes {
		sum[[2]int{v.Source, v.Target}] += weights[v.Voter]
	}
	reached := map[int]int{0: 0}
	for round := 1; round <= len(parents); round++ {
		for l, w := range sum {
			before, from := reached[l[0]]
			if _, is := reached[l[1]]; from && before == round-1 && !is && 3*w >= 2*all {
				reached[l[1]] = round
			}
		}
	}
	fewest := map[int]int{}
	for l, w := range sum {
		if n, is := reached[l[0]]; is && parents[l[1]-1] == l[0] && 3*w >= 2*all {
			fewest[l[0]] = n + 1
		}
	}
	return fewest
}

func TestP7AgainstTheWords(t *testing.T) {
	r := rand.New(rand.NewSource(7))
	long, several := 0, 0
	for range 2000 {
		c, weights, parents, votes := drawn(t, r, 3, 9, 300)
		fewest := fewestByTheWords(weights, parents, votes)
		for block := range len(parents) + 1 {
			proof, e := c.Proof(block)
			want, final := fewest[block]
			if !final {
				if len(proof) != 0 || e != api.ErrNone {
					t.Errorf("Proof(%d): %v, %d", block, proof, e)
				}
				continue
			}
			if e != api.OK || len(proof) != want {
				t.Errorf("Proof(%d): %v, %d, want %d links", block, proof, e, want)
			}
			rightProof(t, weights, parents, block, proof)
			for _, link := range proof {
				equal(t, "voters", link.Voters, votersByTheWords(votes, link)...)
			}
			if want > 2 {
				long++
			}
		}
		if len(fewest) > 1 {
			several++
		}
		if t.Failed() {
			t.Fatalf("weights %v, parents %v, votes %v", weights, parents, votes)
		}
	}
	if long < 100 || several < 100 {
		t.Errorf("too few to tell apart: %d long proofs, %d with several", long, several)
	}
}

func votersByTheWords(votes []api.Vote, link api.Link) []int {
	var voters []int
	for voter := range api.MaxVoters {
		if slices.Contains(votes, api.Vote{Voter: voter, Source: link.Source, Target: link.Target}) {
			voters = append(voters, voter)
		}
	}
	return voters
}

func TestP7AskingChangesNothing(t *testing.T) {
	c := court(t, equals(3), 0, 1)
	vote(t, c, votesOf([][3]int{{2, 0, 1}, {0, 0, 1}, {2, 1, 2}, {1, 1, 2}})...)
	before := told(c)
	for range 3 {
		if after := told(c); after != before {
			t.Errorf("changed:\n%s\n%s", before, after)
		}
	}
}
