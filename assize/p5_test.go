package assize

import (
	"math/rand"
	"slices"
	"testing"

	"assize/api"
)

func TestP5JustAndFinal(t *testing.T) {
	fork := []int{0, 0, 1, 2}
	for _, x := range []struct {
		name        string
		weights     []int
		parents     []int
		votes       [][3]int
		just, final []int
	}{
		{"the root alone", equals(1), nil, nil, []int{0}, nil},
		{"the example's first half", equals(3), fork, [][3]int{{0, 0, 1}, {1, 0, 1}, {0, 1, 3}, {1, 1, 3}}, []int{0, 1, 3}, []int{0, 1}},
		{"the whole example", equals(3), fork, [][3]int{{0, 0, 1}, {1, 0, 1}, {0, 1, 3}, {1, 1, 3}, {1, 0, 2}, {2, 0, 2}, {1, 2, 4}, {2, 2, 4}}, []int{0, 1, 2, 3, 4}, []int{0, 1, 2}},
		{"two of four", equals(4), []int{0}, [][3]int{{0, 0, 1}, {3, 0, 1}}, []int{0}, nil},
		{"three of four", equals(4), []int{0}, [][3]int{{0, 0, 1}, {3, 0, 1}, {2, 0, 1}}, []int{0, 1}, []int{0}},
		{"two of 2, 1", []int{2, 1}, []int{0}, [][3]int{{0, 0, 1}}, []int{0, 1}, []int{0}},
		{"one of 2, 1", []int{2, 1}, []int{0}, [][3]int{{1, 0, 1}}, []int{0}, nil},
		{"66 of 100", []int{33, 33, 34}, []int{0}, [][3]int{{0, 0, 1}, {1, 0, 1}}, []int{0}, nil},
		{"67 of 100", []int{33, 33, 34}, []int{0}, [][3]int{{0, 0, 1}, {2, 0, 1}}, []int{0, 1}, []int{0}},
		{"66 of 99", []int{33, 33, 33}, []int{0}, [][3]int{{1, 0, 1}, {2, 0, 1}}, []int{0, 1}, []int{0}},
		{"a final link's weight just too little", equals(3), []int{0, 1}, [][3]int{{0, 0, 1}, {1, 0, 1}, {0, 1, 2}}, []int{0, 1}, []int{0}},
		{"over a block", equals(1), chain(3), [][3]int{{0, 0, 2}, {0, 2, 3}}, []int{0, 2, 3}, []int{2}},
		{"a source that is not just", equals(1), chain(3), [][3]int{{0, 1, 2}, {0, 2, 3}}, []int{0}, nil},
		{"the first link last", equals(1), chain(3), [][3]int{{0, 2, 3}, {0, 1, 2}, {0, 0, 1}}, []int{0, 1, 2, 3}, []int{0, 1, 2}},
		{"two sources together are not enough", equals(3), []int{0, 1}, [][3]int{{0, 0, 1}, {1, 0, 1}, {0, 0, 2}, {1, 1, 2}}, []int{0, 1}, []int{0}},
		{"two children together are not enough", equals(3), []int{0, 0}, [][3]int{{0, 0, 1}, {1, 0, 2}}, []int{0}, nil},
		{"one voter's votes do not add up", equals(3), []int{0, 1}, [][3]int{{0, 0, 2}, {0, 1, 2}, {0, 0, 1}}, []int{0}, nil},
		{"a grandchild makes nothing final", equals(1), chain(2), [][3]int{{0, 0, 2}}, []int{0, 2}, nil},
		{"just by the farther of two sources", equals(2), chain(2), [][3]int{{0, 1, 2}, {1, 1, 2}, {0, 0, 2}, {1, 0, 2}}, []int{0, 2}, nil},
		{"final by a child of a greater number", equals(1), []int{0, 0, 0}, [][3]int{{0, 0, 3}}, []int{0, 3}, []int{0}},
	} {
		c := court(t, x.weights, x.parents...)
		vote(t, c, votesOf(x.votes)...)
		equal(t, x.name+": Just", c.Just(), x.just...)
		equal(t, x.name+": Final", c.Final(), x.final...)
	}
}

func TestP5EachVoterOfTheMost(t *testing.T) {
	c := court(t, slices.Repeat([]int{100}, 12), 0)
	for voter := range 12 {
		vote(t, c, api.Vote{Voter: voter, Source: 0, Target: 1})
		want := []int{0}
		if voter+1 >= 8 {
			want = []int{0, 1}
		}
		equal(t, "Just", c.Just(), want...)
	}
}

// TestP5LongestLine: the last block is as far from the root as there may be.
func TestP5LongestLine(t *testing.T) {
	c := court(t, equals(1), chain(39)...)
	for b := range 39 {
		vote(t, c, api.Vote{Voter: 0, Source: b, Target: b + 1})
		equal(t, "Just", c.Just(), chain(b+2)...)
		equal(t, "Final", c.Final(), chain(b+1)...)
	}
}

func TestP5AskingChangesNothing(t *testing.T) {
	c := court(t, equals(3), 0)
	vote(t, c, api.Vote{Voter: 0, Source: 0, Target: 1})
	for range 3 {
		equal(t, "Just", c.Just(), 0)
		equal(t, "Final", c.Final())
	}
	vote(t, c, api.Vote{Voter: 1, Source: 0, Target: 1})
	for range 3 {
		equal(t, "Just", c.Just(), 0, 1)
		equal(t, "Final", c.Final(), 0)
	}
}

// byTheWords: what is just and final, by the document's words alone: again and again, until nothing more becomes just.
func byTheWords(weights []int, parents []int, votes []api.Vote) (just, final []int) {
	all := 0
	for _, w := range weights {
		all += w
	}
	type link struct{ source, target int }
	sum := map[link]int{}
	for _, v := range votes {
		sum[link{v.Source, v.Target}] += weights[v.Voter]
	}
	isJust := map[int]bool{0: true}
	for more := true; more; {
		more = false
		for l, w := range sum {
			if isJust[l.source] && !isJust[l.target] && 3*w >= 2*all {
				isJust[l.target], more = true, true
			}
		}
	}
	isFinal := map[int]bool{}
	for l, w := range sum {
		if isJust[l.source] && parents[l.target-1] == l.source && 3*w >= 2*all {
			isFinal[l.source] = true
		}
	}
	for b := range len(parents) + 1 {
		if isJust[b] {
			just = append(just, b)
		}
		if isFinal[b] {
			final = append(final, b)
		}
	}
	return just, final
}

func TestP5AgainstTheWords(t *testing.T) {
	r := rand.New(rand.NewSource(5))
	many := 0
	for range 2000 {
		c, weights, parents, votes := drawn(t, r, 4, 7, 120)
		just, final := byTheWords(weights, parents, votes)
		equal(t, "Just", c.Just(), just...)
		equal(t, "Final", c.Final(), final...)
		if len(final) > 1 && len(final) < len(just) {
			many++
		}
		if t.Failed() {
			t.Fatalf("weights %v, parents %v, votes %v", weights, parents, votes)
		}
	}
	if many < 100 {
		t.Errorf("only %d of the cases have something to tell apart", many)
	}
}
