package guilt

import (
	"testing"

	"assize/api"
	"assize/tree"
)

// twoBranches: 1 to 5 behind the root, and 6 to 10 too: the heights of a block and of that five more are the same.
func twoBranches() *tree.Tree {
	blocks := tree.Planted()
	for range 2 {
		at := tree.Root
		for range 5 {
			at = blocks.Lay(at)
		}
	}
	return &blocks
}

func TestKind(t *testing.T) {
	for _, x := range []struct {
		name string
		one  [2]int
		two  [2]int
		want int
	}{
		{"the same", [2]int{1, 3}, [2]int{1, 3}, Neither},
		{"one target, two sources", [2]int{1, 3}, [2]int{2, 3}, api.Double},
		{"one target, from the root", [2]int{0, 3}, [2]int{2, 3}, api.Double},
		{"another target of one height", [2]int{0, 1}, [2]int{0, 6}, api.Double},
		{"another target of one height, farther sources", [2]int{1, 3}, [2]int{7, 8}, api.Double},
		{"around", [2]int{0, 3}, [2]int{1, 2}, api.Around},
		{"far around", [2]int{0, 5}, [2]int{2, 3}, api.Around},
		{"around, on another branch", [2]int{0, 3}, [2]int{6, 7}, api.Around},
		{"around, both behind the root", [2]int{1, 4}, [2]int{7, 8}, api.Around},
		{"one source", [2]int{0, 3}, [2]int{0, 2}, Neither},
		{"sources of one height", [2]int{1, 4}, [2]int{6, 8}, Neither},
		{"one behind the other", [2]int{0, 1}, [2]int{1, 2}, Neither},
		{"far behind the other", [2]int{0, 1}, [2]int{3, 5}, Neither},
		{"behind the other, on another branch", [2]int{0, 1}, [2]int{6, 7}, Neither},
		{"across each other", [2]int{0, 2}, [2]int{1, 3}, Neither},
		{"across each other, on two branches", [2]int{1, 3}, [2]int{7, 10}, Neither},
	} {
		one := api.Vote{Voter: 2, Source: x.one[0], Target: x.one[1]}
		two := api.Vote{Voter: 2, Source: x.two[0], Target: x.two[1]}
		if got := Kind(twoBranches(), one, two); got != x.want {
			t.Errorf("%s: %d, want %d", x.name, got, x.want)
		}
		if got := Kind(twoBranches(), two, one); got != x.want {
			t.Errorf("%s, the other way round: %d, want %d", x.name, got, x.want)
		}
		two.Voter = 3
		if got := Kind(twoBranches(), one, two); got != Neither {
			t.Errorf("%s, of two voters: %d", x.name, got)
		}
	}
}

func TestFirst(t *testing.T) {
	one := api.Vote{Voter: 2, Source: 1, Target: 2}
	behind, around := api.Vote{Voter: 2, Source: 2, Target: 3}, api.Vote{Voter: 2, Source: 0, Target: 3}
	double, another := api.Vote{Voter: 2, Source: 0, Target: 2}, api.Vote{Voter: 1, Source: 0, Target: 2}
	for _, x := range []struct {
		name   string
		others []api.Vote
		kind   int
		want   api.Vote
	}{
		{"none", nil, Neither, api.Vote{}},
		{"none that may not be", []api.Vote{one, behind, another}, Neither, api.Vote{}},
		{"the last one", []api.Vote{one, behind, another, double}, api.Double, double},
		{"double ahead of around", []api.Vote{behind, double, around}, api.Double, double},
		{"around ahead of double", []api.Vote{around, double, behind}, api.Around, around},
	} {
		got, is := First(twoBranches(), one, x.others)
		want := api.Guilt{Voter: 2, Kind: x.kind, One: one, Other: x.want}
		if x.kind == Neither {
			want = api.Guilt{}
		}
		if got != want || is != (x.kind != Neither) {
			t.Errorf("%s: %v, %v, want %v", x.name, got, is, want)
		}
	}
}
