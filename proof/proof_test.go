package proof

import (
	"math"
	"slices"
	"testing"

	"assize/api"
	"assize/tree"
	"assize/weigh"
)

// links: each written as source, target, voters.
func links(list ...[]int) []api.Link {
	var proof []api.Link
	for _, l := range list {
		proof = append(proof, api.Link{Source: l[0], Target: l[1], Voters: l[2:]})
	}
	return proof
}

func TestRight(t *testing.T) {
	// 1, 3 and 5 behind the root, and 2 and 4 too.
	blocks := tree.Grown([]int{0, 0, 0, 1, 2, 3})
	for _, x := range []struct {
		name  string
		links []api.Link
		want  bool
	}{
		{"of the root", links([]int{0, 1, 0, 1}), true},
		{"of the root, by the other branch", links([]int{0, 2, 1, 2}), true},
		{"of a child", links([]int{0, 1, 0, 1}, []int{1, 3, 0, 2}), true},
		{"of one far behind", links([]int{0, 1, 0, 1}, []int{1, 3, 0, 2}, []int{3, 5, 0, 1, 2}), true},
		{"over a block", links([]int{0, 3, 0, 1}, []int{3, 5, 0, 1}), true},

		{"nil", nil, false},
		{"no links", []api.Link{}, false},
		{"a first source that is not the root", links([]int{1, 3, 0, 1}), false},
		{"a first source that is no block", links([]int{-1, 1, 0, 1}), false},
		{"a gap", links([]int{0, 1, 0, 1}, []int{3, 5, 0, 1}), false},
		{"another branch", links([]int{0, 1, 0, 1}, []int{2, 4, 0, 1}), false},
		{"the root twice", links([]int{0, 1, 0, 1}, []int{0, 2, 0, 1}), false},
		{"one link twice", links([]int{0, 1, 0, 1}, []int{0, 1, 0, 1}), false},
		{"a target on another branch", links([]int{0, 1, 0, 1}, []int{1, 4, 0, 1}), false},
		{"a target that is the source", links([]int{0, 0, 0, 1}, []int{0, 1, 0, 1}), false},
		{"back", links([]int{0, 1, 0, 1}, []int{1, 0, 0, 1}, []int{0, 1, 0, 1}), false},
		{"a target that is no block", links([]int{0, 6, 0, 1}), false},
		{"a target below 0", links([]int{0, -1, 0, 1}), false},
		{"a last source that is not the parent", links([]int{0, 3, 0, 1}), false},
		{"a last source that is not the parent, behind a right proof", links([]int{0, 1, 0, 1}, []int{1, 5, 0, 1}), false},

		{"no voters", links([]int{0, 1}), false},
		{"too few", links([]int{0, 1, 2}), false},
		{"too few by the first link", links([]int{0, 1, 2}, []int{1, 3, 0, 1}), false},
		{"too few by the last link", links([]int{0, 1, 0, 1}, []int{1, 3, 0}), false},
		{"one twice", links([]int{0, 1, 1, 1}), false},
		{"one twice, behind enough", links([]int{0, 1, 0, 1, 1}), false},
		{"falling", links([]int{0, 1, 1, 0}), false},
		{"falling, behind enough", links([]int{0, 1, 0, 2, 1}), false},
		{"one who is not there", links([]int{0, 1, 0, 1, 3}), false},
		{"one below 0", links([]int{0, 1, -1, 0, 1}), false},
		{"one far off", links([]int{0, 1, 0, 1, math.MaxInt}), false},
		{"behind one far off", links([]int{0, 1, math.MaxInt, math.MinInt, 0, 1}), false},
	} {
		if got := Right(&blocks, weigh.Weights{1, 1, 1}, x.links); got != x.want {
			t.Errorf("%s: %v", x.name, got)
		}
		if x.want && Shown(x.links) != x.links[len(x.links)-1].Source {
			t.Errorf("%s: shows %d", x.name, Shown(x.links))
		}
	}
}

func TestEdgesOfEnough(t *testing.T) {
	blocks := tree.Grown([]int{0, 0})
	for _, x := range []struct {
		weights weigh.Weights
		voters  []int
		want    bool
	}{
		{weigh.Weights{1}, []int{0}, true},
		{weigh.Weights{1}, nil, false},
		{weigh.Weights{2, 1}, []int{0}, true},
		{weigh.Weights{2, 1}, []int{1}, false},
		{weigh.Weights{1, 1}, []int{0}, false},
		{weigh.Weights{1, 1, 1, 1}, []int{0, 2}, false},
		{weigh.Weights{1, 1, 1, 1}, []int{0, 2, 3}, true},
		{weigh.Weights{66, 33}, []int{0}, true},
		{weigh.Weights{65, 33}, []int{0}, false},
		{weigh.Weights{66, 34}, []int{0}, false},
		{slices.Repeat(weigh.Weights{100}, 12), []int{0, 1, 2, 3, 4, 5, 6, 7}, true},
		{slices.Repeat(weigh.Weights{100}, 12), []int{5, 6, 7, 8, 9, 10, 11}, false},
	} {
		proof := []api.Link{{Source: 0, Target: 1, Voters: x.voters}}
		if got := Right(&blocks, x.weights, proof); got != x.want {
			t.Errorf("of %v, %v: %v", x.weights, x.voters, got)
		}
	}
}

// TestManyLinks: as many as a tree has room for, and more.
func TestManyLinks(t *testing.T) {
	blocks := tree.Planted()
	var proof []api.Link
	for block := range 50 {
		blocks.Lay(block)
		proof = append(proof, api.Link{Source: block, Target: block + 1, Voters: []int{0}})
	}
	for count := range proof {
		if got := Right(&blocks, weigh.Weights{1}, proof[:count]); got != (count >= 1 && count <= 40) {
			t.Errorf("%d links: %v", count, got)
		}
	}
}
