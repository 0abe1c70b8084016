package assize

import (
	"fmt"
	"iter"
	"math"
	"slices"
	"testing"

	"assize/api"
)

func TestP4VoteErrors(t *testing.T) {
	c := court(t, []int{1, 1}, 0, 1, 1, 2)
	for i, x := range []struct {
		voter, source, target int
		want                  api.Errno
	}{
		{0, 0, 1, api.OK},
		{0, 0, 1, api.ErrTwice},
		{1, 0, 1, api.OK},
		{-1, 0, 1, api.ErrVoter},
		{2, 0, 1, api.ErrVoter},
		{math.MaxInt, 0, 1, api.ErrVoter},
		{math.MinInt, 0, 1, api.ErrVoter},
		{2, 9, 9, api.ErrVoter},
		{0, -1, 1, api.ErrBlock},
		{0, 0, -1, api.ErrBlock},
		{0, 5, 1, api.ErrBlock},
		{0, 0, 5, api.ErrBlock},
		{0, math.MinInt, math.MaxInt, api.ErrBlock},
		{0, 0, 0, api.ErrLink},
		{0, 1, 1, api.ErrLink},
		{0, 1, 0, api.ErrLink},
		{0, 4, 0, api.ErrLink},
		{0, 2, 3, api.ErrLink},
		{0, 3, 4, api.ErrLink},
		{0, 0, 4, api.OK},
		{0, 1, 4, api.OK},
		{0, 2, 4, api.OK},
		{0, 1, 4, api.ErrTwice},
		{1, 1, 4, api.OK},
		{0, 0, 1, api.ErrTwice},
	} {
		if e := c.Vote(x.voter, x.source, x.target); e != x.want {
			t.Errorf("case %d: Vote(%d, %d, %d): %d, want %d", i, x.voter, x.source, x.target, e, x.want)
		}
	}
	if got := fmt.Sprint(slices.Collect(c.All())); got != "[{0 0 1} {1 0 1} {0 0 4} {0 1 4} {0 2 4} {1 1 4}]" {
		t.Errorf("All: %s", got)
	}
}

func TestP4MaxVotes(t *testing.T) {
	c := court(t, equals(12), chain(39)...)
	for i := range api.MaxVotes + 3 {
		want := api.OK
		if i >= api.MaxVotes {
			want = api.ErrMany
		}
		if e := c.Vote(i%12, i/12, i/12+1); e != want {
			t.Errorf("the vote %d: %d, want %d", i+1, e, want)
		}
	}
	if n := len(slices.Collect(c.All())); n != api.MaxVotes {
		t.Errorf("%d votes", n)
	}
	if n, e := c.Block(0); n != 0 || e != api.ErrMany {
		t.Errorf("Block: %d, %d", n, e)
	}
}

// mixed: votes in an order that no sorting would give, in a Court that has them.
func mixed(t *testing.T) (*Court, []api.Vote) {
	t.Helper()
	votes := []api.Vote{
		{Voter: 2, Source: 1, Target: 3}, {Voter: 0, Source: 0, Target: 2}, {Voter: 2, Source: 0, Target: 1},
		{Voter: 1, Source: 0, Target: 3}, {Voter: 0, Source: 0, Target: 1}, {Voter: 2, Source: 0, Target: 3},
	}
	c := court(t, equals(3), 0, 0, 1)
	vote(t, c, votes...)
	return c, votes
}

func TestP4AllInOrderAndAgain(t *testing.T) {
	c, votes := mixed(t)
	all := c.All()
	for range 3 {
		if got := slices.Collect(all); !slices.Equal(got, votes) {
			t.Errorf("All: %v, want %v", got, votes)
		}
	}
	vote(t, c, api.Vote{Voter: 1, Source: 1, Target: 3})
	if got := slices.Collect(all); !slices.Equal(got, votes) {
		t.Errorf("All, after one vote more: %v, want %v", got, votes)
	}
	if got := slices.Collect(c.All()); len(got) != 7 || got[6] != (api.Vote{Voter: 1, Source: 1, Target: 3}) {
		t.Errorf("a new All: %v", got)
	}
}

func TestP4AllWithinItself(t *testing.T) {
	c, votes := mixed(t)
	all := c.All()
	var outer []api.Vote
	for v := range all {
		outer = append(outer, v)
		if inner := slices.Collect(all); !slices.Equal(inner, votes) {
			t.Errorf("within itself: %v, want %v", inner, votes)
		}
	}
	if !slices.Equal(outer, votes) {
		t.Errorf("around itself: %v, want %v", outer, votes)
	}
}

func TestP4AllLeftEarly(t *testing.T) {
	c, votes := mixed(t)
	all := c.All()
	for stop := range votes {
		var got []api.Vote
		for v := range all {
			got = append(got, v)
			if len(got) == stop+1 {
				break
			}
		}
		if !slices.Equal(got, votes[:stop+1]) {
			t.Errorf("left after %d: %v", stop+1, got)
		}
		if got := slices.Collect(all); !slices.Equal(got, votes) {
			t.Errorf("after it was left early: %v", got)
		}
	}
	if e := c.Vote(0, 1, 3); e != api.OK {
		t.Errorf("a vote after All was left early: %d", e)
	}
}

// TestP4AllPulled: two who go through it by turns do not meet.
func TestP4AllPulled(t *testing.T) {
	c, votes := mixed(t)
	all := c.All()
	one, stopOne := iter.Pull(all)
	defer stopOne()
	other, stopOther := iter.Pull(all)
	defer stopOther()
	for _, want := range votes {
		a, okA := one()
		b, okB := other()
		if !okA || !okB || a != want || b != want {
			t.Errorf("by turns: %v, %v, want %v", a, b, want)
		}
	}
}
