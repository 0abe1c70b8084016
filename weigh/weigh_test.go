package weigh

import (
	"math"
	"slices"
	"testing"
)

func TestRight(t *testing.T) {
	for _, x := range []struct {
		weights []int
		want    bool
	}{
		{nil, false},
		{[]int{}, false},
		{[]int{1}, true},
		{[]int{100}, true},
		{[]int{0}, false},
		{[]int{101}, false},
		{[]int{-1}, false},
		{[]int{1, 1, 0}, false},
		{[]int{1, 101, 1}, false},
		{[]int{math.MaxInt}, false},
		{[]int{math.MinInt}, false},
		{slices.Repeat([]int{100}, 12), true},
		{slices.Repeat([]int{1}, 13), false},
	} {
		if got := Right(x.weights); got != x.want {
			t.Errorf("Right(%v): %v", x.weights, got)
		}
	}
}

func TestHas(t *testing.T) {
	w := Weights{5, 6}
	for voter, want := range map[int]bool{math.MinInt: false, -1: false, 0: true, 1: true, 2: false, math.MaxInt: false} {
		if w.Has(voter) != want {
			t.Errorf("Has(%d): %v", voter, !want)
		}
	}
}

func TestOf(t *testing.T) {
	w := Weights{5, 6, 100}
	for _, x := range []struct {
		voters []int
		want   int
	}{
		{nil, 0}, {[]int{}, 0}, {[]int{0}, 5}, {[]int{1}, 6}, {[]int{0, 2}, 105}, {[]int{0, 1, 2}, w.Total()},
	} {
		if got := w.Of(x.voters); got != x.want {
			t.Errorf("Of(%v): %d, want %d", x.voters, got, x.want)
		}
	}
}

func TestEnough(t *testing.T) {
	for _, x := range []struct {
		weights Weights
		least   int
	}{
		{Weights{1}, 1},
		{Weights{1, 1}, 2},
		{Weights{1, 1, 1}, 2},
		{Weights{1, 1, 1, 1}, 3},
		{Weights{2, 1}, 2},
		{Weights{33, 33, 34}, 67},
		{Weights{33, 33, 33}, 66},
		{slices.Repeat(Weights{100}, 12), 800},
	} {
		if !x.weights.Enough(x.least) || x.weights.Enough(x.least-1) {
			t.Errorf("of %v the least that is enough is not %d", x.weights, x.least)
		}
	}
}
