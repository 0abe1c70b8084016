package assize

import (
	"fmt"
	"math/rand"
	"slices"
	"testing"

	"assize/api"
)

func TestP6Guilty(t *testing.T) {
	// 1 to 5 behind the root, and 6 to 10 too.
	branches := append(chain(5), 0, 6, 7, 8, 9)
	for _, x := range []struct {
		name  string
		votes [][3]int
		want  string
	}{
		{"no votes", nil, "[]"},
		{"one vote", [][3]int{{0, 0, 5}}, "[]"},
		{"one behind the other", [][3]int{{0, 0, 1}, {0, 1, 2}, {0, 2, 3}, {0, 3, 4}, {0, 4, 5}}, "[]"},
		{"one ahead of the other", [][3]int{{0, 4, 5}, {0, 3, 4}, {0, 2, 3}, {0, 1, 2}, {0, 0, 1}}, "[]"},
		{"across each other", [][3]int{{0, 0, 3}, {0, 1, 4}, {0, 2, 5}}, "[]"},
		{"one source, rising targets", [][3]int{{0, 0, 1}, {0, 0, 2}, {0, 0, 5}}, "[]"},
		{"one source, falling targets", [][3]int{{0, 0, 5}, {0, 0, 2}, {0, 0, 1}}, "[]"},
		{"sources of one height", [][3]int{{0, 1, 5}, {0, 6, 8}}, "[]"},
		{"from branch to branch", [][3]int{{0, 0, 1}, {0, 6, 7}, {0, 2, 3}, {0, 8, 9}}, "[]"},

		{"double: one target", [][3]int{{0, 0, 3}, {0, 1, 3}}, "[{0 1 {0 0 3} {0 1 3}}]"},
		{"double: one target, the other way round", [][3]int{{0, 1, 3}, {0, 0, 3}}, "[{0 1 {0 1 3} {0 0 3}}]"},
		{"double: one source", [][3]int{{0, 0, 1}, {0, 0, 6}}, "[{0 1 {0 0 1} {0 0 6}}]"},
		{"double: no block is the same", [][3]int{{0, 1, 3}, {0, 7, 8}}, "[{0 1 {0 1 3} {0 7 8}}]"},
		{"double: the greater block first", [][3]int{{0, 6, 8}, {0, 1, 3}}, "[{0 1 {0 6 8} {0 1 3}}]"},

		{"around", [][3]int{{0, 0, 3}, {0, 1, 2}}, "[{0 2 {0 0 3} {0 1 2}}]"},
		{"around: the inner one first", [][3]int{{0, 1, 2}, {0, 0, 3}}, "[{0 2 {0 1 2} {0 0 3}}]"},
		{"around: on another branch", [][3]int{{0, 0, 3}, {0, 6, 7}}, "[{0 2 {0 0 3} {0 6 7}}]"},
		{"around: far", [][3]int{{0, 8, 9}, {0, 0, 5}}, "[{0 2 {0 8 9} {0 0 5}}]"},
		{"around: not to height 2", [][3]int{{0, 0, 2}, {0, 1, 3}}, "[]"},

		{"other voters' votes", [][3]int{{0, 0, 1}, {1, 0, 6}, {2, 0, 3}, {0, 1, 2}}, "[]"},
		{"the voters rise", [][3]int{{2, 0, 1}, {2, 0, 6}, {1, 0, 3}, {1, 1, 2}, {0, 1, 2}, {0, 0, 2}},
			"[{0 1 {0 1 2} {0 0 2}} {1 2 {1 0 3} {1 1 2}} {2 1 {2 0 1} {2 0 6}}]"},
		{"one of three", [][3]int{{2, 0, 1}, {1, 0, 1}, {0, 0, 1}, {1, 0, 6}, {0, 1, 2}, {2, 6, 7}}, "[{1 1 {1 0 1} {1 0 6}}]"},
	} {
		c := court(t, equals(3), branches...)
		vote(t, c, votesOf(x.votes)...)
		if got := fmt.Sprint(c.Guilty()); got != x.want {
			t.Errorf("%s: %s, want %s", x.name, got, x.want)
		}
	}
}

// TestP6WhichPair: where there are several, that whose first vote was given first, and then whose second was, whatever the kind.
func TestP6WhichPair(t *testing.T) {
	for _, x := range []struct {
		name  string
		votes [][3]int
		want  string
	}{
		{"all are double", [][3]int{{0, 0, 4}, {0, 1, 4}, {0, 2, 4}, {0, 3, 4}}, "{0 1 {0 0 4} {0 1 4}}"},
		{"all are double, falling", [][3]int{{0, 3, 4}, {0, 2, 4}, {0, 1, 4}, {0, 0, 4}}, "{0 1 {0 3 4} {0 2 4}}"},
		{"the first with the third", [][3]int{{0, 1, 3}, {0, 0, 1}, {0, 2, 3}, {0, 0, 3}}, "{0 1 {0 1 3} {0 2 3}}"},
		{"the first with the last, though others were given between", [][3]int{{0, 1, 3}, {0, 2, 5}, {0, 3, 4}, {0, 0, 4}}, "{0 2 {0 1 3} {0 0 4}}"},
		{"the second, where the first has none", [][3]int{{0, 0, 1}, {0, 1, 2}, {0, 3, 4}, {0, 0, 5}, {0, 0, 2}}, "{0 2 {0 1 2} {0 0 5}}"},
		{"the last two", [][3]int{{0, 0, 1}, {0, 1, 2}, {0, 2, 3}, {0, 3, 5}, {0, 4, 5}}, "{0 1 {0 3 5} {0 4 5}}"},
		{"around ahead of double", [][3]int{{0, 0, 5}, {0, 1, 2}, {0, 1, 5}}, "{0 2 {0 0 5} {0 1 2}}"},
		{"double ahead of around", [][3]int{{0, 0, 5}, {0, 1, 5}, {0, 1, 2}}, "{0 1 {0 0 5} {0 1 5}}"},
		{"other voters' votes between", [][3]int{{1, 0, 5}, {0, 0, 1}, {2, 0, 3}, {0, 2, 4}, {1, 1, 2}, {0, 3, 4}, {0, 0, 4}}, "{0 1 {0 2 4} {0 3 4}}"},
	} {
		c := court(t, equals(3), chain(5)...)
		vote(t, c, votesOf(x.votes)...)
		guilty := c.Guilty()
		if len(guilty) == 0 || fmt.Sprint(guilty[0]) != x.want {
			t.Errorf("%s: %v, want %s", x.name, guilty, x.want)
		}
	}
}

// TestP6OneVoteMore: a vote more may make another pair the first.
func TestP6OneVoteMore(t *testing.T) {
	c := court(t, equals(1), chain(5)...)
	for _, x := range []struct {
		source, target int
		want           string
	}{
		{1, 3, "[]"},
		{2, 4, "[]"},
		{3, 4, "[{0 1 {0 2 4} {0 3 4}}]"},
		{4, 5, "[{0 1 {0 2 4} {0 3 4}}]"},
		{0, 5, "[{0 2 {0 1 3} {0 0 5}}]"},
		{2, 3, "[{0 2 {0 1 3} {0 0 5}}]"},
	} {
		vote(t, c, api.Vote{Voter: 0, Source: x.source, Target: x.target})
		for range 2 {
			if got := fmt.Sprint(c.Guilty()); got != x.want {
				t.Errorf("after %d to %d: %s, want %s", x.source, x.target, got, x.want)
			}
		}
	}
}

// TestP6RefusedVotes: make nobody guilty.
func TestP6RefusedVotes(t *testing.T) {
	c := court(t, equals(2), 0, 1, 0)
	vote(t, c, api.Vote{Voter: 0, Source: 0, Target: 1})
	for _, v := range [][3]int{{0, 0, 1}, {0, 3, 2}, {0, 1, 1}, {0, -1, 1}, {2, 0, 3}} {
		if e := c.Vote(v[0], v[1], v[2]); e == api.OK {
			t.Errorf("Vote(%v) was given", v)
		}
	}
	if guilty := c.Guilty(); len(guilty) != 0 {
		t.Errorf("Guilty: %v", guilty)
	}
}

// TestP6MostVotes: of all voters, and of one alone.
func TestP6MostVotes(t *testing.T) {
	c := full(t)
	if guilty := c.Guilty(); len(guilty) != 0 {
		t.Errorf("each to blocks of rising height: %v", guilty)
	}
	c = court(t, equals(12), chain(39)...)
	for voter := range 12 {
		for b := range 24 {
			vote(t, c, api.Vote{Voter: 11 - voter, Source: b, Target: b + 1})
		}
		vote(t, c, api.Vote{Voter: 11 - voter, Source: 22, Target: 24})
	}
	guilty := c.Guilty()
	if len(guilty) != 12 {
		t.Fatalf("%d are guilty", len(guilty))
	}
	for voter, g := range guilty {
		want := api.Guilt{Voter: voter, Kind: api.Double, One: api.Vote{Voter: voter, Source: 23, Target: 24}, Other: api.Vote{Voter: voter, Source: 22, Target: 24}}
		if g != want {
			t.Errorf("%v, want %v", g, want)
		}
	}
	c = court(t, equals(1), chain(39)...)
	for target := 39; target > 0; target-- {
		for source := range target {
			c.Vote(0, source, target)
		}
	}
	if got := fmt.Sprint(c.Guilty()); got != "[{0 1 {0 0 39} {0 1 39}}]" {
		t.Errorf("one voter's most votes: %s", got)
	}
}

// guiltyByTheWords: by the document's words alone: all pairs, of which the first by the places of its votes is taken.
func guiltyByTheWords(voters int, parents []int, votes []api.Vote) []api.Guilt {
	height := []int{0}
	for _, p := range parents {
		height = append(height, height[p]+1)
	}
	var guilty []api.Guilt
	for voter := range voters {
		best, found := [2]int{len(votes), len(votes)}, api.Guilt{}
		for j, b := range votes {
			for i, a := range votes[:j] {
				if a.Voter != voter || b.Voter != voter {
					continue
				}
				kind := 0
				as, at, bs, bt := height[a.Source], height[a.Target], height[b.Source], height[b.Target]
				if at == bt {
					kind = 1
				} else if as < bs && at > bt || bs < as && bt > at {
					kind = 2
				}
				if kind != 0 && (i < best[0] || i == best[0] && j < best[1]) {
					best, found = [2]int{i, j}, api.Guilt{Voter: voter, Kind: kind, One: a, Other: b}
				}
			}
		}
		if found.Kind != 0 {
			guilty = append(guilty, found)
		}
	}
	return guilty
}

func TestP6AgainstTheWords(t *testing.T) {
	r := rand.New(rand.NewSource(6))
	var kinds [3]int
	innocent := 0
	for range 3000 {
		c, weights, parents, votes := drawn(t, r, 5, 12, 60)
		got, want := c.Guilty(), guiltyByTheWords(len(weights), parents, votes)
		if !slices.Equal(got, want) {
			t.Fatalf("%v, want %v: weights %v, parents %v, votes %v", got, want, weights, parents, votes)
		}
		for _, g := range got {
			kinds[g.Kind]++
		}
		innocent += len(weights) - len(got)
	}
	if kinds[1] < 500 || kinds[2] < 500 || innocent < 500 {
		t.Errorf("too few to tell apart: %v, and %d innocent", kinds, innocent)
	}
}
