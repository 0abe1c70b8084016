package tree

import (
	"math"
	"slices"
	"testing"
)

// grown: a Tree with blocks of these parents, from the first one behind the root on.
func grown(parents ...int) *Tree {
	t := Planted()
	for _, parent := range parents {
		t.Lay(parent)
	}
	return &t
}

func TestLayAndKeep(t *testing.T) {
	blocks := grown()
	if blocks.Count() != 1 || !blocks.Has(0) || blocks.Has(1) || blocks.Has(-1) {
		t.Fatal("Planted: not the root alone")
	}
	if n := blocks.Lay(0); n != 1 {
		t.Errorf("Lay: %d, want 1", n)
	}
	if n := blocks.Lay(1); n != 2 || blocks.Count() != 3 {
		t.Errorf("Lay: %d, want 2", n)
	}
	blocks.Keep(2)
	if blocks.Count() != 2 || blocks.Has(2) {
		t.Error("Keep(2) left more than two blocks")
	}
	if n := blocks.Lay(0); n != 2 || !blocks.IsParent(0, 2) || blocks.IsParent(1, 2) {
		t.Error("a block that was taken away is still there")
	}
}

func TestAhead(t *testing.T) {
	blocks := grown(0, 0, 1, 2, 3)
	want := [][]int{nil, {0}, {0}, {1, 0}, {2, 0}, {3, 1, 0}}
	for block := range want {
		ahead := blocks.Ahead(block)
		for range 2 {
			if got := slices.Collect(ahead); !slices.Equal(got, want[block]) {
				t.Errorf("Ahead(%d): %v, want %v", block, got, want[block])
			}
		}
		for other := range want {
			if got := blocks.IsAhead(other, block); got != slices.Contains(want[block], other) {
				t.Errorf("IsAhead(%d, %d): %v", other, block, got)
			}
			if got := blocks.IsParent(other, block); got != (block > 0 && want[block][0] == other) {
				t.Errorf("IsParent(%d, %d): %v", other, block, got)
			}
		}
	}
}

func TestHeight(t *testing.T) {
	blocks := grown(0, 0, 1, 2, 3, 0)
	for block, want := range []int{0, 1, 1, 2, 2, 3, 1} {
		if got := blocks.Height(block); got != want {
			t.Errorf("Height(%d): %d, want %d", block, got, want)
		}
	}
	line := grown()
	for block := range 39 {
		line.Lay(block)
		if got := line.Height(block + 1); got != block+1 {
			t.Errorf("Height(%d) of a line: %d", block+1, got)
		}
	}
}

func TestAheadLeftEarly(t *testing.T) {
	blocks := grown(0, 1, 2, 3)
	var got []int
	for block := range blocks.Ahead(4) {
		got = append(got, block)
		if block == 2 {
			break
		}
	}
	if !slices.Equal(got, []int{3, 2}) {
		t.Errorf("left at 2: %v", got)
	}
}

func TestNoSuchBlock(t *testing.T) {
	var none Tree
	for _, blocks := range []*Tree{&none, grown(0, 1)} {
		for _, block := range []int{math.MinInt, -1, 3, math.MaxInt} {
			if blocks.Has(block) || blocks.IsAhead(0, block) || blocks.IsAhead(block, 2) || blocks.IsParent(0, block) || blocks.Height(block) != 0 {
				t.Errorf("%d is no block", block)
			}
		}
	}
	if none.Count() != 0 || none.Has(0) {
		t.Error("a Tree that nobody made has a root")
	}
}
